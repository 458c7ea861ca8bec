"""Rules written as texts, and read from them."""

from leastforge.errors import NoText
from leastforge.forms import binding_count, has_parts, is_rule, is_variable, parts_of, variables_of
from leastforge.pieces import only_tree
from leastforge.worthtexts import number_of, show_worth, worth_of_tree


def show_rule(rule):
    word = rule[0]
    if word == "var":
        return rule[1]
    if word == "lit":
        shown = show_worth(rule[1])
        return "(lit " + shown + ")" if isinstance(rule[1], tuple) else shown
    inner = [word] + list(variables_of(rule)) + [show_rule(part) for part in parts_of(rule)]
    return "(" + " ".join(inner) + ")"


def variable_of_tree(tree):
    if tree[0] != "word" or not is_variable(tree[1]):
        raise NoText("a variable is to stand here")
    return tree[1]


# Numbers and texts are written without the word, and so are not read with it.
def lit_of_trees(trees):
    if len(trees) != 1 or trees[0][0] != "list":
        raise NoText("behind lit one list is to stand")
    return ("lit", worth_of_tree(trees[0]))


def bracketed(trees):
    if len(trees) == 0 or trees[0][0] != "word":
        raise NoText("behind a bracket a word is to stand")
    word = trees[0][1]
    if word == "lit":
        return lit_of_trees(trees[1:])
    if not has_parts(word):
        raise NoText("no expression has this word")
    first = 1 + binding_count(word)
    variables = tuple([variable_of_tree(tree) for tree in trees[1:first]])
    return (word,) + variables + tuple([expression_of_tree(tree) for tree in trees[first:]])


def expression_of_tree(tree):
    if tree[0] == "list":
        return bracketed(tree[1])
    if tree[0] == "text":
        return ("lit", tree[1])
    if is_variable(tree[1]):
        return ("var", tree[1])
    return ("lit", number_of(tree[1]))


def rule_of_tree(tree):
    expression = expression_of_tree(tree)
    if not is_rule(expression):
        raise NoText("what is written is no good expression")
    return expression


def read_rule(text):
    return rule_of_tree(only_tree(text))
