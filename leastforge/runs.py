"""Runs: going through a rule, with what its looks find.

While a run goes, a record has None as its outcome where it waits for a look
that has no found. It is handed up as a wrong is, but no else takes it.
"""

from leastforge.deeds import GREAT, KIND, made, reckoned
from leastforge.forms import parts_of
from leastforge.worths import is_number

MOST_WALKED = 10


class Run:
    def __init__(self, founds):
        self.founds = list(founds)
        self.names = []

    def look(self, name):
        self.names.append(name)
        if len(self.names) > len(self.founds):
            return None
        return self.founds[len(self.names) - 1]


def is_made(record):
    return record[0] is not None and record[0][0] == "made"


def worth_of(record):
    return record[0][1]


# The expression has the outcome of the part that was gone through last.
def as_last(records):
    return (records[-1][0], tuple(records))


# The outer variables are bound yet behind the part, so they are kept apart.
def binding(bound, name, worth):
    inner = dict(bound)
    inner[name] = worth
    return inner


def go_lit(run, expression, bound):
    return (("made", expression[1]), ())


def go_var(run, expression, bound):
    return (("made", bound[expression[1]]), ())


def go_let(run, expression, bound):
    first = record_of(run, expression[2], bound)
    if not is_made(first):
        return as_last([first])
    inner = binding(bound, expression[1], worth_of(first))
    return as_last([first, record_of(run, expression[3], inner)])


def go_if(run, expression, bound):
    first = record_of(run, expression[1], bound)
    if not is_made(first):
        return as_last([first])
    if not is_number(worth_of(first)):
        return (KIND, (first,))
    branch = expression[2] if worth_of(first) != 0 else expression[3]
    return as_last([first, record_of(run, branch, bound)])


# The record that an each or an over has ahead of its repeated part, or None where that is gone through.
def ended_ahead(records):
    if not is_made(records[-1]):
        return as_last(records)
    walked = worth_of(records[0])
    if not isinstance(walked, tuple):
        return (KIND, tuple(records))
    return (GREAT, tuple(records)) if len(walked) > MOST_WALKED else None


def go_each(run, expression, bound):
    records = go_through(run, expression[2:3], bound)
    ended = ended_ahead(records)
    if ended is not None:
        return ended
    walked = worth_of(records[0])
    for item in walked:
        records.append(record_of(run, expression[3], binding(bound, expression[1], item)))
        if not is_made(records[-1]):
            return as_last(records)
    return (made(tuple([worth_of(record) for record in records[1:]])), tuple(records))


# The last record is the one that y has its worth from: B's at first, then C's.
def go_over(run, expression, bound):
    records = go_through(run, expression[3:5], bound)
    ended = ended_ahead(records)
    if ended is not None:
        return ended
    walked = worth_of(records[0])
    for item in walked:
        inner = binding(binding(bound, expression[1], item), expression[2], worth_of(records[-1]))
        records.append(record_of(run, expression[5], inner))
        if not is_made(records[-1]):
            return as_last(records)
    return as_last(records)


def go_look(run, expression, bound):
    first = record_of(run, expression[1], bound)
    if not is_made(first):
        return as_last([first])
    if not isinstance(worth_of(first), str):
        return (KIND, (first,))
    return (run.look(worth_of(first)), (first,))


def go_else(run, expression, bound):
    first = record_of(run, expression[1], bound)
    if first[0] is None or is_made(first):
        return as_last([first])
    return as_last([first, record_of(run, expression[2], bound)])


def go_cry(run, expression, bound):
    first = record_of(run, expression[1], bound)
    if not is_made(first):
        return as_last([first])
    return (("wrong", "cried", worth_of(first)), (first,))


# Words that aren't here have all their parts gone through, and are reckoned then.
GOING = {
    "lit": go_lit, "var": go_var, "let": go_let, "if": go_if, "each": go_each,
    "over": go_over, "look": go_look, "else": go_else, "cry": go_cry,
}


def go_through(run, expressions, bound):
    records = []
    for expression in expressions:
        records.append(record_of(run, expression, bound))
        if not is_made(records[-1]):
            return records
    return records


def go_reckoned(run, expression, bound):
    records = go_through(run, parts_of(expression), bound)
    if len(records) > 0 and not is_made(records[-1]):
        return as_last(records)
    return (reckoned(expression[0], [worth_of(record) for record in records]), tuple(records))


def record_of(run, expression, bound):
    if expression[0] in GOING:
        return GOING[expression[0]](run, expression, bound)
    return go_reckoned(run, expression, bound)


def gone(rule, founds):
    run = Run(founds)
    record = record_of(run, rule, {})
    if record[0] is None:
        return ("look", list(run.names))
    return ("ended", list(run.names), record)
