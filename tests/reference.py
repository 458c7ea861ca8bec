"""Points 11, 12, 13, 18 to 20, 24 to 29 and 35 said once more, plainly; tests compare the program with them."""

import re

from leastforge.errors import NoText
from leastforge.formtexts import read_rule
from leastforge.papers import is_right
from leastforge.worths import is_worth, size
from leastforge.worthtexts import read_worth

KIND = ("wrong", "kind", "")
GREAT = ("wrong", "great", "")
NOUGHT = ("wrong", "nought", "")
PLACE = ("wrong", "place", "")


def plain_run(expression, bound):
    """Points 11 and 12 said once more; names are yielded, founds are sent, and a record is returned."""
    word = expression[0]
    parts = []

    def go(part, names=(), worths=()):
        record = yield from plain_run(part, {**bound, **dict(zip(names, worths))})
        parts.append(record)
        return record[0]

    def finish(outcome):
        if outcome[0] == "made" and not is_worth(outcome[1]):
            outcome = GREAT
        return (outcome, tuple(parts))

    if word == "lit":
        return finish(("made", expression[1]))
    if word == "var":
        return finish(("made", bound[expression[1]]))
    if word == "let":
        first = yield from go(expression[2])
        if first[0] == "wrong":
            return finish(first)
        return finish((yield from go(expression[3], [expression[1]], [first[1]])))
    if word == "else":
        first = yield from go(expression[1])
        return finish(first if first[0] == "made" else (yield from go(expression[2])))
    if word == "if":
        first = yield from go(expression[1])
        if first[0] == "wrong":
            return finish(first)
        if not isinstance(first[1], int):
            return finish(KIND)
        return finish((yield from go(expression[3] if first[1] == 0 else expression[2])))
    if word in ("each", "over"):
        starts = [expression[2]] if word == "each" else [expression[3], expression[4]]
        worths = []
        for start in starts:
            outcome = yield from go(start)
            if outcome[0] == "wrong":
                return finish(outcome)
            worths.append(outcome[1])
        if not isinstance(worths[0], tuple):
            return finish(KIND)
        if len(worths[0]) > 10:
            return finish(GREAT)
        came = []
        for item in worths[0]:
            names, values = ([expression[1]], [item]) if word == "each" else (expression[1:3], [item, worths[1]])
            outcome = yield from go(expression[-1], names, values)
            if outcome[0] == "wrong":
                return finish(outcome)
            came.append(outcome[1])
            worths[1:] = [outcome[1]]
        return finish(("made", tuple(came) if word == "each" else worths[1]))
    worths = []
    for part in expression[1:]:
        outcome = yield from go(part)
        if outcome[0] == "wrong":
            return finish(outcome)
        worths.append(outcome[1])
    if word == "look":
        return finish((yield worths[0]) if isinstance(worths[0], str) else KIND)
    if word == "cry":
        return finish(("wrong", "cried", worths[0]))
    return finish(plain_reckoning(word, worths))


def plain_reckoning(word, worths):
    kinds = [type(worth) for worth in worths]
    if word == "list":
        return ("made", tuple(worths))
    if word == "same":
        return ("made", 1 if worths[0] == worths[1] else 0)
    if word == "count":
        return KIND if kinds == [int] else ("made", len(worths[0]))
    if word == "figures":
        return ("made", f"{worths[0]}") if kinds == [int] else KIND
    if word == "join":
        return ("made", worths[0] + worths[1]) if kinds in ([str, str], [tuple, tuple]) else KIND
    if word == "item":
        if kinds != [tuple, int]:
            return KIND
        return ("made", worths[0][worths[1]]) if worths[1] in range(len(worths[0])) else PLACE
    if kinds != [int, int]:
        return KIND
    one, other = worths
    if word == "less":
        return ("made", 1 if one < other else 0)
    if word == "/":
        return NOUGHT if other == 0 else ("made", (one - one % other) // other)
    return ("made", {"+": one + other, "-": one - other, "*": one * other}[word])


def plainly_gone(rule, founds):
    run = plain_run(rule, {})
    names = []
    left = list(founds)
    try:
        names.append(next(run))
        while left:
            names.append(run.send(left.pop(0)))
    except StopIteration as end:
        return ("ended", names, end.value)
    return ("look", names)


def within_bounds(record):
    """Whether a run with this record keeps to point 2: 2,000 expressions, worths of 200,000 in all."""
    counted = whole = 0
    waiting = [record]
    while waiting:
        outcome, parts = waiting.pop()
        counted += 1
        whole += size(outcome[-1])
        waiting.extend(parts)
    return counted <= 2000 and whole <= 200000


def plain_paper(rule, founds):
    """The paper of a run, or None where it doesn't end with these founds or is beyond point 2."""
    ended = plainly_gone(rule, founds)
    if ended[0] == "look" or not within_bounds(ended[2]):
        return None
    return (rule, tuple(zip(ended[1], founds)), ended[2])


def plain_may(house, looker, name):
    if not re.fullmatch("[a-z0-9]{1,12}[.][a-z0-9]{1,12}", name):
        return False
    return looker is None or name in house.opened or name.split(".")[0] == looker.split(".")[0]


def plain_found(house, looker, name, outcomes):
    """Point 18: an outcome, or None where a rule has none as yet."""
    if not plain_may(house, None, name):
        return ("wrong", "none", name)
    if not plain_may(house, looker, name):
        return ("wrong", "shut", name)
    if name in house.sources:
        return ("made", house.sources[name])
    return outcomes.get(name) if name in house.rules else ("wrong", "none", name)


def plainly_made(house):
    """Points 19 and 20: all that was come to is made again and again, until nothing is new."""
    outcomes = {}
    waits = {}
    come = list(house.wishes)
    before = None
    while before != (len(come), len(outcomes)):
        before = (len(come), len(outcomes))
        for name in list(come):
            if name in house.sources:
                outcomes[name] = ("made", house.sources[name])
            if name not in house.rules:
                continue
            founds = []
            went = plainly_gone(house.rules[name], founds)
            while went[0] == "look":
                look = went[1][-1]
                if look not in come and plain_may(house, name, look):
                    come.append(look)
                found = plain_found(house, name, look, outcomes)
                if found is None:
                    waits[name] = look
                    break
                founds.append(found)
                went = plainly_gone(house.rules[name], founds)
            if went[0] == "ended":
                waits.pop(name, None)
                outcomes[name] = went[2][0]
    return outcomes, waits


def plainly_found(paper):
    return [found for name, found in paper[1]]


def plainly_matched(papers, founds):
    """Point 24; what is written alike is the same just so."""
    for number, paper in enumerate(papers):
        if repr(plainly_found(paper)) == repr(founds):
            return ("whole", number)
    for paper in papers:
        if repr(plainly_found(paper)[:len(founds)]) == repr(founds):
            return ("look", paper[1][len(founds)][0])
    return ("none",)


class PlainMaking:
    """Points 25 to 29; book a dict of papers, shelf a list of rows, tasks dicts."""

    def __init__(self, house, book, shelf):
        self.house, self.book, self.shelf = house.copy(), dict(book), list(shelf)
        self.tasks = {}
        self.steps = 0
        self.things = {name: ("made", self.house.sources[name]) for name in self.house.wishes if name in self.house.sources}
        for name in self.house.wishes:
            self.begin(name)

    def begin(self, name):
        if name not in self.house.rules or name in self.tasks:
            return
        rule = self.house.rules[name]
        papers = [row for row in self.shelf if is_right(row[1]) and repr(row[1][0]) == repr(rule)]
        if name in self.book and self.book[name][0] == rule:
            papers.insert(0, (None, self.book[name]))
        self.tasks[name] = {"needs": None, "founds": [], "paper": None, "how": None, "papers": papers}

    def found(self, name):
        return plain_found(self.house, name, self.tasks[name]["needs"], self.things)

    def ready(self):
        return [name for name, task in self.tasks.items()
                if task["paper"] is None and (task["needs"] is None or self.found(name) is not None)]

    def waiting(self):
        return {name: task["needs"] for name, task in self.tasks.items() if task["paper"] is None and name not in self.ready()}

    def why(self, name, founds):
        if name not in self.book:
            return ("new",)
        if self.book[name][0] != self.house.rules[name]:
            return ("rule",)
        for number, (look, found) in enumerate(self.book[name][1]):
            if found != founds[number]:
                return ("look", number, look, found, founds[number])

    def step(self, pick):
        names = self.ready()
        name = names[pick % len(names)]
        task = self.tasks[name]
        founds = task["founds"]
        self.steps += 1
        if task["needs"] is not None:
            founds.append(self.found(name))
            if task["needs"] in self.house.sources and plain_may(self.house, name, task["needs"]):
                self.things[task["needs"]] = founds[-1]
            task["needs"] = None
        answer = plainly_matched([row[1] for row in task["papers"]], founds)
        if answer[0] == "whole":
            who, task["paper"] = task["papers"][answer[1]]
            task["how"] = ("left",) if who is None else ("taken", who)
        elif answer[0] == "look":
            task["needs"] = answer[1]
        else:
            went = plainly_gone(self.house.rules[name], founds)
            if went[0] == "look":
                task["needs"] = went[1][-1]
            else:
                task["paper"] = (self.house.rules[name], tuple(zip(went[1], founds)), went[2])
                task["how"] = ("done", self.why(name, founds))
        if task["paper"] is not None:
            self.things[name] = task["paper"][2][0]
        elif plain_may(self.house, name, task["needs"]):
            self.begin(task["needs"])
        return name

    def go(self, picks, most=None):
        names = []
        while self.ready() and (most is None or len(names) < most):
            names.append(self.step(picks[len(names)] if len(names) < len(picks) else 0))
        return names


def plain_tree(text):
    """Nested lists of the pieces of a text, texts with their quotes; None where brackets or quotes are not in pairs."""
    if text.count('"') % 2:
        return None
    levels = [[]]
    for piece in re.findall(r'"[^"]*"|[()]|[^ \n()"]+', text):
        if piece == "(":
            levels.append([])
        elif piece == ")":
            if len(levels) == 1:
                return None
            inner = levels.pop()
            levels[-1].append(inner)
        else:
            levels[-1].append(piece)
    return levels[0] if len(levels) == 1 else None


def text_again(tree):
    return tree if isinstance(tree, str) else "(" + " ".join(text_again(inner) for inner in tree) + ")"


def plainly_read_outcome(tree):
    if len(tree) == 2 and tree[0] == "made":
        return ("made", read_worth(text_again(tree[1])))
    word, detail = (tree[1], read_worth(text_again(tree[2]))) if len(tree) == 3 and tree[0] == "wrong" else (None, None)
    if (word in ("kind", "great", "nought", "place") and detail == "" or word == "cried"
            or word in ("none", "shut") and isinstance(detail, str)):
        return ("wrong", word, detail)
    raise NoText()


def plainly_read_record(tree):
    if not isinstance(tree, list) or not tree or not isinstance(tree[0], list):
        raise NoText()
    return (plainly_read_outcome(tree[0]), tuple(plainly_read_record(inner) for inner in tree[1:]))


def plainly_read_paper(tree):
    """Point 35 said once more, of a tree of pieces, by the readers of worths and rules; refused as there."""
    if not isinstance(tree, list) or len(tree) != 4 or tree[0] != "paper":
        raise NoText()
    if not isinstance(tree[2], list) or tree[2][:1] != ["looks"]:
        raise NoText()
    looks = []
    for look in tree[2][1:]:
        if not isinstance(look, list) or len(look) != 2 or not isinstance(look[0], str) or not isinstance(look[1], list):
            raise NoText()
        name = read_worth(look[0])
        if not isinstance(name, str):
            raise NoText()
        looks.append((name, plainly_read_outcome(look[1])))
    return (read_rule(text_again(tree[1])), tuple(looks), plainly_read_record(tree[3]))
