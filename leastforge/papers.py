"""Papers: what a run of a rule looked at, what it found there, and all that came."""

from leastforge.deeds import is_outcome
from leastforge.forms import is_rule
from leastforge.runs import gone
from leastforge.worths import is_worth


# Python holds a truth and a number for equal, which are none here; but it writes them otherwise.
def just_so(one, other):
    return one == other and repr(one) == repr(other)


def outcome_of(paper):
    return paper[2][0]


def founds_of(paper):
    return [look[1] for look in paper[1]]


def names_of(paper):
    return [look[0] for look in paper[1]]


# Of a run that ended, as gone tells it.
def paper_of_run(rule, founds, ended):
    return (rule, tuple(zip(ended[1], founds)), ended[2])


def paper_of(rule, founds):
    return paper_of_run(rule, founds, gone(rule, founds))


def is_look(thing):
    if not isinstance(thing, tuple) or len(thing) != 2:
        return False
    return isinstance(thing[0], str) and is_worth(thing[0]) and is_outcome(thing[1])


def are_looks(thing):
    return isinstance(thing, tuple) and all([is_look(look) for look in thing])


def is_record_alone(thing):
    if not isinstance(thing, tuple) or len(thing) != 2:
        return False
    return is_outcome(thing[0]) and isinstance(thing[1], tuple)


def is_record(thing):
    waiting = [thing]
    while len(waiting) > 0:
        record = waiting.pop()
        if not is_record_alone(record):
            return False
        waiting.extend(record[1])
    return True


# Only a rule can be run, and only outcomes can be found, so both are asked ahead of a run.
def may_be_run(thing):
    if not isinstance(thing, tuple) or len(thing) != 3:
        return False
    return is_rule(thing[0]) and are_looks(thing[1])


# Of the form of a paper, right or not.
def is_paper(thing):
    return may_be_run(thing) and is_record(thing[2])


def is_right(thing):
    if not may_be_run(thing):
        return False
    ended = gone(thing[0], founds_of(thing))
    return ended[0] == "ended" and ended[1] == names_of(thing) and just_so(ended[2], thing[2])
