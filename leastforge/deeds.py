"""Outcomes, and what each word makes of the worths of its parts."""

from leastforge.worths import is_number, is_worth, same

KIND = ("wrong", "kind", "")
GREAT = ("wrong", "great", "")
NOUGHT = ("wrong", "nought", "")
PLACE = ("wrong", "place", "")

BARE_WORDS = ("kind", "great", "nought", "place")
NAMING_WORDS = ("none", "shut")


def fits_word(word, detail):
    if word in BARE_WORDS:
        return detail == ""
    if word in NAMING_WORDS:
        return isinstance(detail, str) and is_worth(detail)
    return word == "cried" and is_worth(detail)


def is_outcome(thing):
    if not isinstance(thing, tuple):
        return False
    if len(thing) == 2:
        return thing[0] == "made" and is_worth(thing[1])
    return len(thing) == 3 and thing[0] == "wrong" and fits_word(thing[1], thing[2])


def made(thing):
    return ("made", thing) if is_worth(thing) else GREAT


def truth(is_so):
    return ("made", 1 if is_so else 0)


def summed(worths):
    return made(worths[0] + worths[1])


def differing(worths):
    return made(worths[0] - worths[1])


def multiplied(worths):
    return made(worths[0] * worths[1])


def divided(worths):
    if worths[1] == 0:
        return NOUGHT
    return made(worths[0] // worths[1])


def lessened(worths):
    return truth(worths[0] < worths[1])


def figured(worths):
    return made(str(worths[0]))


def compared(worths):
    return truth(same(worths[0], worths[1]))


def joined(worths):
    one = worths[0]
    other = worths[1]
    are_texts = isinstance(one, str) and isinstance(other, str)
    are_lists = isinstance(one, tuple) and isinstance(other, tuple)
    return made(one + other) if are_texts or are_lists else KIND


def listed(worths):
    return made(tuple(worths))


# Python would count a place below 0 from the end; here there is none.
def item_at(worths):
    items = worths[0]
    place = worths[1]
    if not isinstance(items, tuple) or not is_number(place):
        return KIND
    return made(items[place]) if 0 <= place < len(items) else PLACE


def counted(worths):
    return made(len(worths[0])) if isinstance(worths[0], (str, tuple)) else KIND


# These take numbers alone.
NUMBER_DEEDS = {
    "+": summed, "-": differing, "*": multiplied, "/": divided, "less": lessened, "figures": figured,
}
OTHER_DEEDS = {"same": compared, "join": joined, "list": listed, "item": item_at, "count": counted}


def reckoned(word, worths):
    if word not in NUMBER_DEEDS:
        return OTHER_DEEDS[word](worths)
    if not all([is_number(worth) for worth in worths]):
        return KIND
    return NUMBER_DEEDS[word](worths)
