"""Worths written as texts, and read from them."""

from leastforge.errors import NoText
from leastforge.pieces import only_tree
from leastforge.worths import is_worth

FIGURES = "0123456789"
MOST_FIGURES = 60


def show_worth(worth):
    if isinstance(worth, tuple):
        return "(" + " ".join([show_worth(item) for item in worth]) + ")"
    if isinstance(worth, str):
        return '"' + worth + '"'
    return str(worth)


# How many figures there are is asked ahead of int, which takes only so many.
def writes_number(word):
    figures = word[1:] if word.startswith("-") else word
    if figures == "" or len(figures) > MOST_FIGURES:
        return False
    if figures[0] == "0" and word != "0":
        return False
    return all([sign in FIGURES for sign in figures])


def number_of(word):
    if not writes_number(word):
        raise NoText("a number is written by figures, the first no 0")
    return int(word)


# The worth's bounds are not asked here, so that who reads more asks them once.
def worth_of_tree(tree):
    if tree[0] == "list":
        return tuple([worth_of_tree(item) for item in tree[1]])
    if tree[0] == "text":
        return tree[1]
    return number_of(tree[1])


def text_of_tree(tree):
    if tree[0] != "text" or not is_worth(tree[1]):
        raise NoText("a worth's text is to stand here")
    return tree[1]


def read_worth(text):
    worth = worth_of_tree(only_tree(text))
    if not is_worth(worth):
        raise NoText("what is written is beyond the bounds of a worth")
    return worth
