"""Names: two words with a point between, of which the first is the room."""

SIGNS = "abcdefghijklmnopqrstuvwxyz0123456789"
MOST_SIGNS = 12


def is_word(text):
    return 1 <= len(text) <= MOST_SIGNS and all([sign in SIGNS for sign in text])


def is_name(thing):
    if not isinstance(thing, str):
        return False
    words = thing.split(".")
    return len(words) == 2 and is_word(words[0]) and is_word(words[1])


def room_of(name):
    return name.split(".")[0]
