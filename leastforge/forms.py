"""Expressions: their forms, what is bound in them, and which of them are rules."""

from leastforge.worths import is_worth

LETTERS = "abcdefghijklmnopqrstuvwxyz"
MOST_LETTERS = 8
MOST_LISTED = 8
MOST_MANY = 60
MOST_NESTING = 12
MOST_REPEATED = 2

# How many variables stand behind the word; they are bound in the last part, and there alone.
BINDING = {"let": 1, "each": 1, "over": 2}
REPEATING = ("each", "over")

# How many parts there are behind the variables; list has as many as it likes, lit and var none.
PARTS = {
    "let": 2, "if": 3, "+": 2, "-": 2, "*": 2, "/": 2, "same": 2, "less": 2, "join": 2,
    "item": 2, "count": 1, "figures": 1, "each": 2, "over": 3, "look": 1, "else": 2, "cry": 1,
}


def is_variable(thing):
    if not isinstance(thing, str) or not 1 <= len(thing) <= MOST_LETTERS:
        return False
    return all([sign in LETTERS for sign in thing])


def has_parts(word):
    return word == "list" or word in PARTS


def binding_count(word):
    return BINDING.get(word, 0)


def variables_of(expression):
    return expression[1:1 + binding_count(expression[0])]


def parts_of(expression):
    word = expression[0]
    if not has_parts(word):
        return []
    return list(expression[1 + binding_count(word):])


def are_good_variables(names):
    if not all([is_variable(name) for name in names]):
        return False
    return len(names) < 2 or names[0] != names[1]


# What stands in the places of the parts is not asked here.
def has_form(thing):
    if not isinstance(thing, tuple) or thing == () or not isinstance(thing[0], str):
        return False
    word = thing[0]
    if word == "lit":
        return len(thing) == 2 and is_worth(thing[1])
    if word == "var":
        return len(thing) == 2 and is_variable(thing[1])
    if word == "list":
        return len(thing) <= 1 + MOST_LISTED
    if word not in PARTS or len(thing) != 1 + binding_count(word) + PARTS[word]:
        return False
    return are_good_variables(variables_of(thing))


# It ends as soon as a bound is passed, so that those below never go down too deep.
def is_formed(thing):
    waiting = [(thing, 0)]
    whole = 0
    while len(waiting) > 0:
        pair = waiting.pop()
        expression = pair[0]
        level = pair[1]
        whole += 1
        if whole > MOST_MANY or level > MOST_NESTING or not has_form(expression):
            return False
        waiting.extend([(part, level + 1) for part in parts_of(expression)])
    return True


def many(expression):
    return 1 + sum([many(part) for part in parts_of(expression)])


def nesting(expression):
    return max([1 + nesting(part) for part in parts_of(expression)], default=0)


def unbound(expression, bound):
    if expression[0] == "var":
        return [] if expression[1] in bound else [expression[1]]
    parts = parts_of(expression)
    names = []
    for place, part in enumerate(parts):
        is_last = place == len(parts) - 1
        names.extend(unbound(part, bound + variables_of(expression) if is_last else bound))
    return names


def free_in(expression):
    return sorted(set(unbound(expression, ())))


def repeated(expression):
    parts = parts_of(expression)
    deepest = 0
    for place, part in enumerate(parts):
        is_repeated = expression[0] in REPEATING and place == len(parts) - 1
        deepest = max(deepest, repeated(part) + (1 if is_repeated else 0))
    return deepest


def is_rule(thing):
    return is_formed(thing) and free_in(thing) == [] and repeated(thing) <= MOST_REPEATED
