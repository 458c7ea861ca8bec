"""Worths: numbers, texts and lists, and the bounds that they keep to."""

MOST_SIGNS = 400
MOST_ITEMS = 60
MOST_SIZE = 1000
MOST_DEPTH = 12

# The percent sign may not stand in a text of the program, so it is known by its number.
PERCENT = 37


# Truths are ints in Python, but no numbers here.
def is_number(thing):
    return isinstance(thing, int) and not isinstance(thing, bool)


def is_sign(sign):
    return " " <= sign <= "~" and sign != '"' and ord(sign) != PERCENT


# What is within a list is not asked here, only whether it may be one, with so many levels left.
def fits_alone(thing, levels):
    if is_number(thing):
        return abs(thing) < 10 ** 60
    if isinstance(thing, str):
        return len(thing) <= MOST_SIGNS and all([is_sign(sign) for sign in thing])
    return isinstance(thing, tuple) and len(thing) <= MOST_ITEMS and levels > 0


def size_alone(worth):
    return 1 + len(worth) if isinstance(worth, str) else 1


# It ends as soon as a bound is passed, so that what is far beyond them costs no more.
def is_worth(thing):
    waiting = [(thing, MOST_DEPTH)]
    whole = 0
    while len(waiting) > 0:
        pair = waiting.pop()
        item = pair[0]
        levels = pair[1]
        if not fits_alone(item, levels):
            return False
        whole += size_alone(item)
        if whole > MOST_SIZE:
            return False
        if isinstance(item, tuple):
            waiting.extend([(inner, levels - 1) for inner in item])
    return True


def size(worth):
    if isinstance(worth, tuple):
        return 1 + sum([size(item) for item in worth])
    return size_alone(worth)


def depth(worth):
    if isinstance(worth, tuple):
        return 1 + max([depth(item) for item in worth], default=0)
    return 0


def same(one, other):
    return one == other
