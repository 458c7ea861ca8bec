"""Outcomes, records and papers written as texts, and papers read from them."""

from leastforge.deeds import is_outcome
from leastforge.errors import NoText
from leastforge.formtexts import rule_of_tree, show_rule
from leastforge.pieces import only_tree
from leastforge.worthtexts import show_worth, text_of_tree, worth_of_tree


def bracketed(texts):
    return "(" + " ".join(texts) + ")"


# All but the last of an outcome are bare words.
def show_outcome(outcome):
    return bracketed(list(outcome[:-1]) + [show_worth(outcome[-1])])


def show_record(record):
    return bracketed([show_outcome(record[0])] + [show_record(part) for part in record[1]])


def show_look(look):
    return bracketed([show_worth(look[0]), show_outcome(look[1])])


def show_paper(paper):
    looks = bracketed(["looks"] + [show_look(look) for look in paper[1]])
    return bracketed(["paper", show_rule(paper[0]), looks, show_record(paper[2])])


def inner_trees(tree):
    if tree[0] != "list":
        raise NoText("a bracket is to stand here")
    return tree[1]


def word_of_tree(tree):
    if tree[0] != "word":
        raise NoText("a word is to stand here")
    return tree[1]


def trees_behind(word, tree):
    trees = inner_trees(tree)
    if len(trees) == 0 or word_of_tree(trees[0]) != word:
        raise NoText("another word is to stand behind this bracket")
    return trees[1:]


def outcome_of_tree(tree):
    trees = inner_trees(tree)
    if len(trees) == 0:
        raise NoText("an outcome has a word")
    outcome = tuple([word_of_tree(inner) for inner in trees[:-1]]) + (worth_of_tree(trees[-1]),)
    if not is_outcome(outcome):
        raise NoText("what is written is no outcome")
    return outcome


def record_of_tree(tree):
    trees = inner_trees(tree)
    if len(trees) == 0:
        raise NoText("a record has an outcome")
    return (outcome_of_tree(trees[0]), tuple([record_of_tree(inner) for inner in trees[1:]]))


def look_of_tree(tree):
    trees = inner_trees(tree)
    if len(trees) != 2:
        raise NoText("a look has a name and an outcome")
    return (text_of_tree(trees[0]), outcome_of_tree(trees[1]))


def paper_of_tree(tree):
    trees = trees_behind("paper", tree)
    if len(trees) != 3:
        raise NoText("a paper has a rule, looks and a record")
    looks = tuple([look_of_tree(inner) for inner in trees_behind("looks", trees[1])])
    return (rule_of_tree(trees[0]), looks, record_of_tree(trees[2]))


def read_paper(text):
    return paper_of_tree(only_tree(text))
