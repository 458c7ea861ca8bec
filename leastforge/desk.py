"""The desk: a forge that is told rows, and answers with texts."""

from leastforge.asks import rests_on, way
from leastforge.errors import NoName, NoRow
from leastforge.forge import Forge
from leastforge.forms import LETTERS
from leastforge.formtexts import read_rule
from leastforge.names import is_name
from leastforge.papertexts import read_paper, show_outcome
from leastforge.rings import ring_way
from leastforge.shelftexts import show_shelf
from leastforge.worthtexts import read_worth, writes_number

MOST_FIGURES = 4
MOST_LETTERS = 12


def writes_steps(word):
    return len(word) <= MOST_FIGURES and writes_number(word) and not word.startswith("-")


def writes_who(word):
    return 1 <= len(word) <= MOST_LETTERS and all([sign in LETTERS for sign in word])


def put_source(forge, name, text):
    forge.house.put(name, read_worth(text))


def put_rule(forge, name, text):
    forge.house.put_rule(name, read_rule(text))


def drop_thing(forge, name):
    forge.house.drop(name)


def open_name(forge, name):
    forge.house.open_up(name)


def shut_name(forge, name):
    forge.house.shut(name)


def wish_name(forge, name):
    forge.house.wish(name)


def let_name(forge, name):
    forge.house.let_go(name)


def tell_way(desk, name):
    return " ".join(way(desk.forge.book, desk.forge.house, name))


def tell_rests(desk, name):
    return " ".join(rests_on(desk.forge.book, name))


def tell_thing(desk, name):
    report = desk.report
    if report is None:
        return "unknown"
    if name in report.things:
        return show_outcome(report.things[name])
    if name in report.waits and not report.stopped:
        return "ring " + " ".join(ring_way(report.waits, name))
    return "unknown"


def tell_how(desk, name):
    if desk.report is None or name not in desk.report.how:
        return "unknown"
    how = desk.report.how[name]
    if how[0] != "done":
        return " ".join(how)
    why = how[1]
    return "look " + why[2] if why[0] == "look" else why[0]


# By the first word: rows with a name and a text, rows with a name that change the house, and rows that ask of a name.
TEXT_DEEDS = {"put": put_source, "rule": put_rule}
NAME_DEEDS = {"drop": drop_thing, "open": open_name, "shut": shut_name, "wish": wish_name, "let": let_name}
ASKED = {"tell": tell_thing, "how": tell_how, "way": tell_way, "rests": tell_rests}


def has_text(word):
    return word in TEXT_DEEDS or word == "lay"


# The text that some rows end with may hold blanks, or no signs.
def words_of(row):
    words = row.split(" ")
    return row.split(" ", 2) if has_text(words[0]) else words


def is_row(words):
    word = words[0]
    if has_text(word):
        return len(words) == 3 and (writes_who(words[1]) if word == "lay" else words[1] != "")
    if word in NAME_DEEDS or word in ASKED:
        return len(words) == 2 and words[1] != ""
    if word == "make" and len(words) == 2:
        return writes_steps(words[1])
    return word in ("make", "shelf") and len(words) == 1


class Desk:
    def __init__(self, who="desk", shelf=None):
        self.forge = Forge(who, shelf)
        self.report = None

    def say(self, row):
        words = words_of(row)
        if not is_row(words):
            raise NoRow("this is no row")
        if words[0] == "make":
            return self.make(int(words[1]) if len(words) == 2 else None)
        if words[0] == "shelf":
            return show_shelf(self.forge.shelf)
        if words[0] == "lay":
            self.forge.shelf.lay(words[1], read_paper(words[2]))
            return "ok"
        if not is_name(words[1]):
            raise NoName("this is no name")
        return self.say_of_name(words)

    def say_of_name(self, words):
        if words[0] in ASKED:
            return ASKED[words[0]](self, words[1])
        if words[0] in TEXT_DEEDS:
            TEXT_DEEDS[words[0]](self.forge, words[1], words[2])
        else:
            NAME_DEEDS[words[0]](self.forge, words[1])
        return "ok"

    def make(self, most):
        self.report = self.forge.make(None, most)
        return ("stopped " if self.report.stopped else "over ") + str(self.report.steps)
