"""What is asked of a book: the way to where a name went wrong, on what it rests, and what is touched by it.

Names are here all texts that are looked at.
"""

from leastforge.blame import blamed
from leastforge.papers import names_of, outcome_of


# The paper by which the way goes on from this name, or None.
def paper_on_way(book, house, name):
    return book.paper_of(name) if name in house.rules else None


# A wrong that a look found is handed up as it is, so it is the paper's own outcome.
def ends_with(paper, name):
    return outcome_of(paper) in (("wrong", "none", name), ("wrong", "shut", name))


def way(book, house, name):
    names = [name]
    paper = paper_on_way(book, house, name)
    while paper is not None:
        looked = blamed(paper)
        if looked is None:
            return names
        is_last = looked in names or ends_with(paper, looked)
        names.append(looked)
        paper = None if is_last else paper_on_way(book, house, looked)
    return names


def looked_at(book, name):
    paper = book.paper_of(name)
    return [] if paper is None else names_of(paper)


def rests_on(book, name):
    reached = {}
    waiting = looked_at(book, name)
    while len(waiting) > 0:
        other = waiting.pop()
        if other not in reached:
            reached[other] = True
            waiting.extend(looked_at(book, other))
    return sorted(reached)


def near(book, name):
    return sorted([other for other in book.papers if name in looked_at(book, other)])


def touched_by(book, name):
    return sorted([other for other in book.papers if name in rests_on(book, other)])
