"""Shelves written as texts, and read from them."""

from leastforge.errors import NoText
from leastforge.papers import is_paper
from leastforge.papertexts import paper_of_tree, show_paper, trees_behind
from leastforge.pieces import trees_of
from leastforge.shelf import Shelf
from leastforge.worthtexts import show_worth, text_of_tree


def show_row(row):
    return "(lay " + show_worth(row[0]) + " " + show_paper(row[1]) + ")"


def show_shelf(shelf):
    return "\n".join([show_row(row) for row in shelf.lying() if is_paper(row[1])])


def row_of_tree(tree):
    trees = trees_behind("lay", tree)
    if len(trees) != 2:
        raise NoText("a row has who laid it and a paper")
    return (text_of_tree(trees[0]), paper_of_tree(trees[1]))


def read_shelf(text):
    shelf = Shelf()
    for tree in trees_of(text):
        row = row_of_tree(tree)
        shelf.lay(row[0], row[1])
    return shelf
