import copy
import unittest

from leastforge.errors import ForgeError, NoName, NoRule, NoThing, NoWorth
from leastforge.forms import is_rule
from leastforge.house import House
from leastforge.worths import is_worth
from tests.samples import counts, nested

ONE = ("lit", 1)
TWO = ("lit", 2)
LOOK = ("look", ("lit", "a.b"))

NO_NAMES = ["", "a", ".", "a.", ".b", "a.b.c", "A.b", "a b.c", " a.b", "a.b ", "abcdefghijklm.a", "a.abcdefghijklm", None, 5, True,
            ("a.b",), ["a.b"], {}, []]
NO_WORTHS = [None, True, False, 10 ** 60, -10 ** 60, "a" * 401, 'a"b', "a\nb", [1], {}, (1, None), (1, [2]), (True,), (0,) * 61,
             nested(13, 0)]
NO_RULES = [None, True, 1, "lit", (), ("lit",), ("lit", True), ["lit", 1], ("var", "x"), ("odd", ONE), ("+", ONE), counts(13, ONE),
            ("list",) + (ONE,) * 9, {}, ("let", "x", ("var", "x"), ONE), ("lit", [1])]


def fields(house):
    return copy.deepcopy((house.sources, house.rules, sorted(house.opened), house.wishes))


def furnished():
    house = House()
    house.put("a.b", 5)
    house.put("a.s", "text")
    house.put_rule("a.r", LOOK)
    house.put_rule("b.r", ONE)
    house.put("b.s", (1, 2))
    house.open_up("b.s")
    house.open_up("b.r")
    house.open_up("b.nothing")
    house.wish("b.r")
    house.wish("a.r")
    house.wish("c.nothing")
    return house


class Asked(unittest.TestCase):
    def holds(self, house, sources=None, rules=None, opened=(), wishes=()):
        self.assertEqual(house.sources, sources or {})
        self.assertEqual(house.rules, rules or {})
        self.assertEqual(sorted(house.opened), sorted(opened))
        self.assertEqual(house.wishes, list(wishes))
        self.assertIs(type(house.sources), dict)
        self.assertIs(type(house.rules), dict)
        self.assertIs(type(house.opened), list)
        self.assertIs(type(house.wishes), list)


class Hands(Asked):
    def test_a_new_house(self):
        self.holds(House())

    def test_two_houses(self):
        one = House()
        other = House()
        one.put("a.b", 1)
        one.put_rule("a.c", ONE)
        one.open_up("a.b")
        one.wish("a.b")
        self.holds(other)

    def test_put(self):
        house = House()
        for worth in (1, 0, -5, "", "text", (), (1, ("a",)), 10 ** 60 - 1):
            self.assertIsNone(house.put("a.b", worth))
            self.holds(house, {"a.b": worth})
        house.put("a.c", 1)
        house.put("b.b", 2)
        self.holds(house, {"a.b": 10 ** 60 - 1, "a.c": 1, "b.b": 2})

    def test_put_rule(self):
        house = House()
        for rule in (ONE, LOOK, ("list",), ("let", "x", ONE, ("var", "x"))):
            self.assertIsNone(house.put_rule("a.b", rule))
            self.holds(house, {}, {"a.b": rule})
        house.put_rule("a.c", ONE)
        self.holds(house, {}, {"a.b": ("let", "x", ONE, ("var", "x")), "a.c": ONE})

    def test_in_the_place_of_the_other(self):
        house = House()
        house.put("a.b", 1)
        house.put("a.c", 2)
        house.put_rule("a.b", ONE)
        self.holds(house, {"a.c": 2}, {"a.b": ONE})
        house.put_rule("a.c", TWO)
        self.holds(house, {}, {"a.b": ONE, "a.c": TWO})
        house.put("a.b", 7)
        self.holds(house, {"a.b": 7}, {"a.c": TWO})

    def test_what_is_a_worth_and_a_rule(self):
        house = House()
        house.put("a.b", ("lit", 1))
        self.holds(house, {"a.b": ("lit", 1)})
        house.put_rule("a.b", ("lit", 1))
        self.holds(house, {}, {"a.b": ("lit", 1)})

    def test_putting_leaves_wishes_and_opened(self):
        house = furnished()
        house.put("b.r", 1)
        house.put_rule("b.s", ONE)
        self.assertEqual(house.wishes, ["b.r", "a.r", "c.nothing"])
        self.assertEqual(sorted(house.opened), ["b.nothing", "b.r", "b.s"])

    def test_drop(self):
        house = furnished()
        self.assertIsNone(house.drop("a.b"))
        self.holds(house, {"a.s": "text", "b.s": (1, 2)}, {"a.r": LOOK, "b.r": ONE}, ["b.s", "b.r", "b.nothing"],
                   ["b.r", "a.r", "c.nothing"])
        self.assertIsNone(house.drop("b.r"))
        self.holds(house, {"a.s": "text", "b.s": (1, 2)}, {"a.r": LOOK}, ["b.s", "b.r", "b.nothing"],
                   ["b.r", "a.r", "c.nothing"])
        with self.assertRaises(NoThing):
            house.drop("b.r")
        with self.assertRaises(NoThing):
            house.drop("a.b")
        house.put("a.b", 1)
        house.drop("a.b")

    def test_open_and_shut(self):
        house = House()
        self.assertIsNone(house.open_up("a.b"))
        self.holds(house, opened=["a.b"])
        self.assertIsNone(house.open_up("a.b"))
        self.holds(house, opened=["a.b"])
        house.open_up("a.c")
        house.open_up("a.b")
        self.holds(house, opened=["a.b", "a.c"])
        self.assertIsNone(house.shut("a.b"))
        self.holds(house, opened=["a.c"])
        self.assertIsNone(house.shut("a.b"))
        self.assertIsNone(house.shut("x.y"))
        self.holds(house, opened=["a.c"])
        house.shut("a.c")
        self.holds(house)
        house.shut("a.c")
        house.open_up("a.c")
        self.holds(house, opened=["a.c"])

    def test_wish_and_let_go(self):
        house = House()
        self.assertIsNone(house.wish("b.b"))
        house.wish("a.a")
        house.wish("c.c")
        self.holds(house, wishes=["b.b", "a.a", "c.c"])
        self.assertIsNone(house.wish("b.b"))
        house.wish("c.c")
        house.wish("a.a")
        self.holds(house, wishes=["b.b", "a.a", "c.c"])
        self.assertIsNone(house.let_go("b.b"))
        self.holds(house, wishes=["a.a", "c.c"])
        self.assertIsNone(house.let_go("b.b"))
        self.assertIsNone(house.let_go("z.z"))
        self.holds(house, wishes=["a.a", "c.c"])
        house.wish("b.b")
        self.holds(house, wishes=["a.a", "c.c", "b.b"])
        house.let_go("c.c")
        house.wish("c.c")
        self.holds(house, wishes=["a.a", "b.b", "c.c"])

    def test_many(self):
        house = House()
        names = [f"r{n}.t{n}" for n in range(40)]
        for number, name in enumerate(names):
            house.put(name, number) if number % 2 else house.put_rule(name, ONE)
            house.open_up(name)
        for name in names[:20][::-1]:
            house.wish(name)
        self.holds(house, {name: n for n, name in enumerate(names) if n % 2}, {name: ONE for name in names[::2]}, names,
                   names[:20][::-1])


class Refused(unittest.TestCase):
    def refused(self, error, deed, *handed):
        house = furnished()
        kept = fields(house)
        with self.assertRaises(ForgeError) as caught:
            getattr(house, deed)(*handed)
        self.assertIs(type(caught.exception), error, (deed, handed))
        self.assertEqual(fields(house), kept)

    def test_no_name(self):
        for name in NO_NAMES:
            for deed in ("drop", "open_up", "shut", "wish", "let_go"):
                self.refused(NoName, deed, name)
            self.refused(NoName, "put", name, 1)
            self.refused(NoName, "put_rule", name, ONE)

    def test_no_name_ahead_of_the_others(self):
        for name in NO_NAMES:
            for worth in NO_WORTHS:
                self.refused(NoName, "put", name, worth)
            for rule in NO_RULES:
                self.refused(NoName, "put_rule", name, rule)

    def test_no_worth(self):
        for worth in NO_WORTHS:
            for name in ("a.b", "a.r", "n.n"):
                self.assertFalse(is_worth(worth))
                self.refused(NoWorth, "put", name, worth)

    def test_no_rule(self):
        for rule in NO_RULES:
            for name in ("a.b", "a.r", "n.n"):
                self.assertFalse(is_rule(rule))
                self.refused(NoRule, "put_rule", name, rule)

    def test_no_thing(self):
        for name in ("n.n", "b.nothing", "c.nothing", "a.nothing"):
            self.refused(NoThing, "drop", name)

    def test_nothing_else_is_refused(self):
        house = furnished()
        for name in ("n.n", "b.nothing", "c.nothing", "a.b", "a.r"):
            for deed in ("open_up", "open_up", "shut", "shut", "wish", "wish", "let_go", "let_go"):
                getattr(house, deed)(name)


class Copies(Asked):
    def change(self, house):
        house.put("a.b", 99)
        house.put("n.n", 1)
        house.put_rule("a.r", TWO)
        house.put("b.r", 3)
        house.drop("a.s")
        house.open_up("n.n")
        house.shut("b.s")
        house.wish("n.n")
        house.let_go("b.r")

    def test_it_is_alike(self):
        house = furnished()
        other = house.copy()
        self.assertIsInstance(other, House)
        self.assertIsNot(other, house)
        self.assertEqual(fields(other), fields(house))
        self.holds(House().copy())

    def test_the_first_is_changed(self):
        house = furnished()
        kept = fields(house)
        other = house.copy()
        self.change(house)
        self.assertEqual(fields(other), kept)

    def test_the_copy_is_changed(self):
        house = furnished()
        kept = fields(house)
        other = house.copy()
        self.change(other)
        self.assertEqual(fields(house), kept)
        self.assertNotEqual(fields(other), kept)

    def test_own_fields(self):
        house = furnished()
        other = house.copy()
        for field in ("sources", "rules", "opened", "wishes"):
            self.assertIsNot(getattr(house, field), getattr(other, field))


class May(unittest.TestCase):
    def setUp(self):
        self.house = furnished()

    def may(self, looker, name):
        self.assertIs(self.house.may(looker, name), True, (looker, name))

    def may_not(self, looker, name):
        self.assertIs(self.house.may(looker, name), False, (looker, name))

    def test_the_own_room(self):
        for name in ("a.b", "a.r", "a.s", "a.nothing"):
            self.may("a.r", name)
            self.may("a.x", name)
            self.may_not("b.r", name)
            self.may_not("ab.r", name)
            self.may_not("b.a", name)

    def test_opened_ones(self):
        for name in ("b.s", "b.r", "b.nothing"):
            self.may("a.r", name)
            self.may("c.c", name)
        self.may_not("a.r", "b.other")
        self.house.shut("b.s")
        self.may_not("a.r", "b.s")
        self.may("b.r", "b.s")
        self.house.open_up("a.b")
        self.may("b.r", "a.b")

    def test_rooms_that_begin_alike(self):
        self.may_not("a.r", "ab.c")
        self.may_not("ab.r", "a.c")
        self.may_not("a1.r", "a.c")

    def test_a_hand(self):
        for name in ("a.b", "b.s", "a.nothing", "c.nothing", "n.n", "b.nothing"):
            self.may(None, name)

    def test_what_is_no_name(self):
        for text in ("", "a", "a.", "a.b.c", "a.B", "a. b"):
            self.may_not("a.r", text)
            self.may_not("b.r", text)

    def test_the_looker_need_not_be_a_thing(self):
        self.may("a.none", "a.b")
        self.may_not("z.none", "a.b")


class Found(unittest.TestCase):
    def setUp(self):
        self.house = furnished()

    def finds(self, looker, name, outcome, outcomes=None):
        handed = {} if outcomes is None else dict(outcomes)
        kept = dict(handed)
        house = fields(self.house)
        self.assertEqual(self.house.found(looker, name, handed), outcome, (looker, name))
        self.assertEqual(repr(self.house.found(looker, name, handed)), repr(outcome))
        self.assertEqual(handed, kept)
        self.assertEqual(fields(self.house), house)

    def test_no_name(self):
        for text in ("", "a", "a.", ".b", "a.b.c", "a.B", "no name", "~", "a" * 400):
            for looker in ("a.r", "b.r", None):
                self.finds(looker, text, ("wrong", "none", text))
                self.finds(looker, text, ("wrong", "none", text), {text: ("made", 1)})

    def test_shut(self):
        for name in ("a.b", "a.s", "a.r", "a.nothing", "c.nothing", "n.n"):
            self.finds("b.r", name, ("wrong", "shut", name))
            self.finds("b.r", name, ("wrong", "shut", name), {name: ("made", 1)})

    def test_none(self):
        self.finds("a.r", "a.nothing", ("wrong", "none", "a.nothing"))
        self.finds("a.r", "b.nothing", ("wrong", "none", "b.nothing"))
        self.finds("b.r", "b.nothing", ("wrong", "none", "b.nothing"))
        self.finds("c.r", "c.nothing", ("wrong", "none", "c.nothing"))
        self.finds("a.r", "a.nothing", ("wrong", "none", "a.nothing"), {"a.nothing": ("made", 1)})

    def test_sources(self):
        self.finds("a.r", "a.b", ("made", 5))
        self.finds("a.r", "a.s", ("made", "text"))
        self.finds("a.r", "b.s", ("made", (1, 2)))
        self.finds("b.r", "b.s", ("made", (1, 2)))
        self.finds("a.r", "a.b", ("made", 5), {"a.b": ("made", 6)})
        self.house.put("a.b", 0)
        self.finds("a.r", "a.b", ("made", 0))

    def test_rules(self):
        wrong = ("wrong", "cried", 1)
        self.finds("a.r", "b.r", None)
        self.finds("a.r", "b.r", None, {"a.r": ("made", 1), "b.s": ("made", 1)})
        self.finds("a.r", "b.r", ("made", 1), {"b.r": ("made", 1), "a.r": wrong})
        self.finds("a.r", "b.r", wrong, {"b.r": wrong})
        self.finds("a.r", "a.r", None)
        self.finds("a.r", "a.r", ("made", 0), {"a.r": ("made", 0)})
        self.finds("b.r", "a.r", ("wrong", "shut", "a.r"), {"a.r": ("made", 0)})

    def test_a_hand(self):
        self.finds(None, "a.b", ("made", 5))
        self.finds(None, "b.s", ("made", (1, 2)))
        self.finds(None, "a.r", None)
        self.finds(None, "a.r", ("made", 5), {"a.r": ("made", 5)})
        self.finds(None, "c.nothing", ("wrong", "none", "c.nothing"))
        self.finds(None, "b.nothing", ("wrong", "none", "b.nothing"))
        self.finds(None, "n.n", ("wrong", "none", "n.n"))

    def test_behind_a_drop(self):
        self.house.drop("a.b")
        self.finds("a.r", "a.b", ("wrong", "none", "a.b"))
        self.finds("b.r", "a.b", ("wrong", "shut", "a.b"))
        self.house.drop("b.r")
        self.finds("a.r", "b.r", ("wrong", "none", "b.r"), {"b.r": ("made", 1)})

    def test_in_the_place_of_the_other(self):
        self.house.put("b.r", 9)
        self.finds("a.r", "b.r", ("made", 9))
        self.house.put_rule("a.b", ONE)
        self.finds("a.r", "a.b", None)

    def test_the_same_again(self):
        outcomes = {"a.r": ("made", 7)}
        asked = [(looker, name) for looker in ("a.r", "b.r", None) for name in ("a.r", "b.r", "a.b", "n.n", "bad", "b.nothing")]
        first = [self.house.found(looker, name, outcomes) for looker, name in asked]
        self.house.may("a.r", "b.r")
        self.assertEqual([self.house.found(looker, name, outcomes) for looker, name in reversed(asked)], first[::-1])
        outcomes["a.r"] = ("made", 8)
        self.assertEqual(first[0], ("made", 7))


if __name__ == "__main__":
    unittest.main()
