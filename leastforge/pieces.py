"""Texts cut into pieces, and the trees of brackets that they write.

A tree is ("word", text), ("text", text) or ("list", trees), trees a tuple.
"""

from leastforge.errors import NoText

BETWEEN = " \n"
WORD_ENDS = ' \n()"'

# Far beyond what is handed in; the bound keeps those that go down a tree from going too deep.
MOST_BRACKETS = 100


def word_end(text, start):
    end = start
    while end < len(text) and text[end] not in WORD_ENDS:
        end += 1
    return end


def text_end(text, start):
    end = text.find('"', start + 1)
    if end < 0:
        raise NoText("a quote is without its other one")
    return end


def pieces_of(text):
    pieces = []
    place = 0
    while place < len(text):
        sign = text[place]
        if sign in BETWEEN:
            place += 1
        elif sign in "()":
            pieces.append((sign, sign))
            place += 1
        elif sign == '"':
            end = text_end(text, place)
            pieces.append(("text", text[place + 1:end]))
            place = end + 1
        else:
            end = word_end(text, place)
            pieces.append(("word", text[place:end]))
            place = end
    return pieces


def trees_of(text):
    levels = [[]]
    for piece in pieces_of(text):
        if piece[0] == "(":
            levels.append([])
            if len(levels) > MOST_BRACKETS:
                raise NoText("too many brackets within one another")
        elif piece[0] == ")":
            if len(levels) == 1:
                raise NoText("a bracket is shut that was not begun")
            inner = levels.pop()
            levels[-1].append(("list", tuple(inner)))
        else:
            levels[-1].append(piece)
    if len(levels) > 1:
        raise NoText("a bracket is not shut")
    return levels[0]


def only_tree(text):
    trees = trees_of(text)
    if len(trees) != 1:
        raise NoText("one thing is to be written, no more and no fewer")
    return trees[0]
