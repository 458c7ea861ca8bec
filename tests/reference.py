"""Points 11, 12, 13 and 18 to 20 said once more, plainly; tests compare the program with them."""

import re

from leastforge.worths import is_worth, size

KIND = ("wrong", "kind", "")
GREAT = ("wrong", "great", "")
NOUGHT = ("wrong", "nought", "")
PLACE = ("wrong", "place", "")


def plain_run(expression, bound):
    """Points 11 and 12 said once more; names are yielded, founds are sent, and a record is returned."""
    word = expression[0]
    parts = []

    def go(part, names=(), worths=()):
        record = yield from plain_run(part, {**bound, **dict(zip(names, worths))})
        parts.append(record)
        return record[0]

    def finish(outcome):
        if outcome[0] == "made" and not is_worth(outcome[1]):
            outcome = GREAT
        return (outcome, tuple(parts))

    if word == "lit":
        return finish(("made", expression[1]))
    if word == "var":
        return finish(("made", bound[expression[1]]))
    if word == "let":
        first = yield from go(expression[2])
        if first[0] == "wrong":
            return finish(first)
        return finish((yield from go(expression[3], [expression[1]], [first[1]])))
    if word == "else":
        first = yield from go(expression[1])
        return finish(first if first[0] == "made" else (yield from go(expression[2])))
    if word == "if":
        first = yield from go(expression[1])
        if first[0] == "wrong":
            return finish(first)
        if not isinstance(first[1], int):
            return finish(KIND)
        return finish((yield from go(expression[3] if first[1] == 0 else expression[2])))
    if word in ("each", "over"):
        starts = [expression[2]] if word == "each" else [expression[3], expression[4]]
        worths = []
        for start in starts:
            outcome = yield from go(start)
            if outcome[0] == "wrong":
                return finish(outcome)
            worths.append(outcome[1])
        if not isinstance(worths[0], tuple):
            return finish(KIND)
        if len(worths[0]) > 10:
            return finish(GREAT)
        came = []
        for item in worths[0]:
            names, values = ([expression[1]], [item]) if word == "each" else (expression[1:3], [item, worths[1]])
            outcome = yield from go(expression[-1], names, values)
            if outcome[0] == "wrong":
                return finish(outcome)
            came.append(outcome[1])
            worths[1:] = [outcome[1]]
        return finish(("made", tuple(came) if word == "each" else worths[1]))
    worths = []
    for part in expression[1:]:
        outcome = yield from go(part)
        if outcome[0] == "wrong":
            return finish(outcome)
        worths.append(outcome[1])
    if word == "look":
        return finish((yield worths[0]) if isinstance(worths[0], str) else KIND)
    if word == "cry":
        return finish(("wrong", "cried", worths[0]))
    return finish(plain_reckoning(word, worths))


def plain_reckoning(word, worths):
    kinds = [type(worth) for worth in worths]
    if word == "list":
        return ("made", tuple(worths))
    if word == "same":
        return ("made", 1 if worths[0] == worths[1] else 0)
    if word == "count":
        return KIND if kinds == [int] else ("made", len(worths[0]))
    if word == "figures":
        return ("made", f"{worths[0]}") if kinds == [int] else KIND
    if word == "join":
        return ("made", worths[0] + worths[1]) if kinds in ([str, str], [tuple, tuple]) else KIND
    if word == "item":
        if kinds != [tuple, int]:
            return KIND
        return ("made", worths[0][worths[1]]) if worths[1] in range(len(worths[0])) else PLACE
    if kinds != [int, int]:
        return KIND
    one, other = worths
    if word == "less":
        return ("made", 1 if one < other else 0)
    if word == "/":
        return NOUGHT if other == 0 else ("made", (one - one % other) // other)
    return ("made", {"+": one + other, "-": one - other, "*": one * other}[word])


def plainly_gone(rule, founds):
    run = plain_run(rule, {})
    names = []
    left = list(founds)
    try:
        names.append(next(run))
        while left:
            names.append(run.send(left.pop(0)))
    except StopIteration as end:
        return ("ended", names, end.value)
    return ("look", names)


def within_bounds(record):
    """Whether a run with this record keeps to point 2: 2,000 expressions, worths of 200,000 in all."""
    counted = whole = 0
    waiting = [record]
    while waiting:
        outcome, parts = waiting.pop()
        counted += 1
        whole += size(outcome[-1])
        waiting.extend(parts)
    return counted <= 2000 and whole <= 200000


def plain_paper(rule, founds):
    """The paper of a run, or None where it doesn't end with these founds or is beyond point 2."""
    ended = plainly_gone(rule, founds)
    if ended[0] == "look" or not within_bounds(ended[2]):
        return None
    return (rule, tuple(zip(ended[1], founds)), ended[2])


def plain_may(house, looker, name):
    if not re.fullmatch("[a-z0-9]{1,12}[.][a-z0-9]{1,12}", name):
        return False
    return looker is None or name in house.opened or name.split(".")[0] == looker.split(".")[0]


def plain_found(house, looker, name, outcomes):
    """Point 18: an outcome, or None where a rule has none as yet."""
    if not plain_may(house, None, name):
        return ("wrong", "none", name)
    if not plain_may(house, looker, name):
        return ("wrong", "shut", name)
    if name in house.sources:
        return ("made", house.sources[name])
    return outcomes.get(name) if name in house.rules else ("wrong", "none", name)


def plainly_made(house):
    """Points 19 and 20: all that was come to is made again and again, until nothing is new."""
    outcomes = {}
    waits = {}
    come = list(house.wishes)
    before = None
    while before != (len(come), len(outcomes)):
        before = (len(come), len(outcomes))
        for name in list(come):
            if name in house.sources:
                outcomes[name] = ("made", house.sources[name])
            if name not in house.rules:
                continue
            founds = []
            went = plainly_gone(house.rules[name], founds)
            while went[0] == "look":
                look = went[1][-1]
                if look not in come and plain_may(house, name, look):
                    come.append(look)
                found = plain_found(house, name, look, outcomes)
                if found is None:
                    waits[name] = look
                    break
                founds.append(found)
                went = plainly_gone(house.rules[name], founds)
            if went[0] == "ended":
                waits.pop(name, None)
                outcomes[name] = went[2][0]
    return outcomes, waits
