"""Papers: what a run of a rule looked at, what it found there, and all that came."""

from leastforge.deeds import is_outcome
from leastforge.forms import is_rule
from leastforge.runs import gone
from leastforge.worths import is_number, is_worth


# Of two that are equal: Python holds a truth and a number for equal, which are none here.
def of_same_kinds(one, other):
    if not isinstance(one, tuple):
        return is_number(one) == is_number(other)
    for item, counterpart in zip(one, other):
        if not of_same_kinds(item, counterpart):
            return False
    return True


def just_so(one, other):
    return one == other and of_same_kinds(one, other)


def outcome_of(paper):
    return paper[2][0]


def founds_of(paper):
    return [look[1] for look in paper[1]]


def names_of(paper):
    return [look[0] for look in paper[1]]


# Of a run that ended, as gone tells it.
def paper_of_run(rule, founds, ended):
    return (rule, tuple(zip(ended[1], founds)), ended[2])


def paper_of(rule, founds):
    return paper_of_run(rule, founds, gone(rule, founds))


def is_look(thing):
    if not isinstance(thing, tuple) or len(thing) != 2:
        return False
    return isinstance(thing[0], str) and is_worth(thing[0]) and is_outcome(thing[1])


def are_looks(thing):
    return isinstance(thing, tuple) and all([is_look(look) for look in thing])


# Only a rule can be run, and only outcomes can be found, so both are asked ahead of the run.
def is_right(thing):
    if not isinstance(thing, tuple) or len(thing) != 3:
        return False
    if not is_rule(thing[0]) or not are_looks(thing[1]):
        return False
    ended = gone(thing[0], founds_of(thing))
    return ended[0] == "ended" and ended[1] == names_of(thing) and just_so(ended[2], thing[2])
