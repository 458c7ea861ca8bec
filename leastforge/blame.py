"""Blame: by which look a paper is wrong."""

from leastforge.forms import parts_of


def is_wrong(record):
    return record[0][0] == "wrong"


# Of an if one branch has no record; of a repeated part, the last one, there may be many.
def part_gone_last(expression, record):
    parts = parts_of(expression)
    records = record[1]
    if expression[0] == "if" and len(records) == 2:
        return parts[2] if records[0][0] == ("made", 0) else parts[1]
    return parts[min(len(records), len(parts)) - 1]


def blamed(paper):
    expression = paper[0]
    record = paper[2]
    if not is_wrong(record):
        return None
    # What is wrong has a part that was gone through: those without parts are never wrong.
    while is_wrong(record[1][-1]):
        expression = part_gone_last(expression, record)
        record = record[1][-1]
    if expression[0] != "look":
        return None
    worth = record[1][0][0][1]
    return worth if isinstance(worth, str) else None
