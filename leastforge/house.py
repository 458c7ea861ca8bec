"""The house: its sources and rules, what is opened, what is wished, and what a look finds there."""

from leastforge.errors import NoName, NoRule, NoThing, NoWorth
from leastforge.forms import is_rule
from leastforge.names import is_name, room_of
from leastforge.worths import is_worth


def ask_for_name(name):
    if not is_name(name):
        raise NoName("this is no name")


# What is refused is asked for ahead of all changes, so that it changes nothing.
class House:
    def __init__(self):
        self.sources = {}
        self.rules = {}
        self.opened = []
        self.wishes = []

    def has_thing(self, name):
        return name in self.sources or name in self.rules

    def put(self, name, worth):
        ask_for_name(name)
        if not is_worth(worth):
            raise NoWorth("this is no worth")
        self.rules.pop(name, None)
        self.sources[name] = worth

    def put_rule(self, name, rule):
        ask_for_name(name)
        if not is_rule(rule):
            raise NoRule("this is no rule")
        self.sources.pop(name, None)
        self.rules[name] = rule

    def drop(self, name):
        ask_for_name(name)
        if not self.has_thing(name):
            raise NoThing("there is no thing of this name")
        self.sources.pop(name, None)
        self.rules.pop(name, None)

    def open_up(self, name):
        ask_for_name(name)
        if name not in self.opened:
            self.opened.append(name)

    def shut(self, name):
        ask_for_name(name)
        if name in self.opened:
            self.opened.remove(name)

    def wish(self, name):
        ask_for_name(name)
        if name not in self.wishes:
            self.wishes.append(name)

    def let_go(self, name):
        ask_for_name(name)
        if name in self.wishes:
            self.wishes.remove(name)

    def copy(self):
        other = House()
        other.sources = dict(self.sources)
        other.rules = dict(self.rules)
        other.opened = list(self.opened)
        other.wishes = list(self.wishes)
        return other

    def may(self, looker, name):
        if not is_name(name):
            return False
        return looker is None or room_of(looker) == room_of(name) or name in self.opened

    def found(self, looker, name, outcomes):
        if not is_name(name):
            return ("wrong", "none", name)
        if not self.may(looker, name):
            return ("wrong", "shut", name)
        if name in self.sources:
            return ("made", self.sources[name])
        if name in self.rules:
            return outcomes.get(name)
        return ("wrong", "none", name)
