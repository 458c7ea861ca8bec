import copy
import random
import unittest

from leastforge.deeds import is_outcome, made, reckoned
from tests.samples import chance_outcome, chance_worth, nested

GREATEST = 10 ** 60 - 1
KIND = ("wrong", "kind", "")
GREAT = ("wrong", "great", "")
NOUGHT = ("wrong", "nought", "")
PLACE = ("wrong", "place", "")

SOME = [0, 1, -7, GREATEST, "", "a", "a" * 400, (), (1,), (1, ("a", ())), (0,) * 60, nested(12, 0)]

# Worths but for one bound.
BEYOND = [
    GREATEST + 1, -GREATEST - 1, GREATEST * GREATEST, "a" * 401, "a" * 800, (0,) * 61, (0,) * 120, nested(13, 0),
    nested(12, ()), ("a" * 399, "b" * 399, "c" * 199), ((0,) * 60,) * 16 + (0,) * 24,
]

NO_WORTHS = BEYOND + [True, False, None, [], [1], {}, (True,), ([],), (1, (None,)), '"', "\n", "\t"]


class IsOutcome(unittest.TestCase):
    def tell(self, thing, expected):
        self.assertIs(is_outcome(thing), expected, repr(thing)[:300])

    def test_made(self):
        for worth in SOME:
            self.tell(("made", worth), True)
        for thing in NO_WORTHS:
            self.tell(("made", thing), False)

    def test_words_without_detail(self):
        for word in ("kind", "great", "nought", "place"):
            self.tell(("wrong", word, ""), True)
            for detail in [" ", "a", "a.b", word, 0, 1, (), ("",), None, False, True, [], [""], {}]:
                self.tell(("wrong", word, detail), False)

    def test_words_with_a_text(self):
        for word in ("none", "shut"):
            for detail in ["", "a", "a.b", "no name", "a" * 400, "~"]:
                self.tell(("wrong", word, detail), True)
            for detail in ["a" * 401, '"', "a\n", "\t", 0, 1, (), ("a",), ("a.b",), None, True, [], ["a"], {}]:
                self.tell(("wrong", word, detail), False)

    def test_cried(self):
        for worth in SOME:
            self.tell(("wrong", "cried", worth), True)
        for thing in NO_WORTHS:
            self.tell(("wrong", "cried", thing), False)

    def test_other_words(self):
        for word in ["", "Kind", "kinds", "made", "wrong", "ring", "cry", "nothing", "greater", "look", None, 0, 1, True,
                     (), ("kind",), [], ["kind"], {}, {"kind": ""}]:
            self.tell(("wrong", word, ""), False)
            self.tell(("wrong", word, "a"), False)
            if word != "made":
                self.tell((word, ""), False)
                self.tell((word, 1), False)
            if word != "wrong":
                self.tell((word, "kind", ""), False)
        for worth in SOME:
            self.tell(("wrong", worth), False)

    def test_one_thing_more_or_fewer(self):
        for outcome in [("made", 1), ("made", ""), ("wrong", "kind", ""), ("wrong", "none", "a"),
                        ("wrong", "cried", 1)]:
            self.tell(outcome, True)
            for more in (1, "", (), None):
                self.tell(outcome + (more,), False)
                self.tell((more,) + outcome, False)
            self.tell(outcome[:-1], False)
            self.tell(outcome[:1], False)
            self.tell(outcome[1:], False)
        self.tell(("made", "kind", ""), False)
        self.tell(("made", 1, ""), False)
        self.tell(("made",), False)
        self.tell(("wrong",), False)

    def test_lists_for_tuples(self):
        for outcome in [("made", 1), ("wrong", "kind", ""), ("wrong", "shut", "a"), ("wrong", "cried", (1,))]:
            self.tell(list(outcome), False)
            self.tell((outcome,), False)
            self.tell([outcome], False)
        self.tell(("made", [1]), False)
        self.tell(("wrong", "cried", [1]), False)

    def test_other_things(self):
        for thing in [None, True, False, 0, 1, "", "made", "wrong", (), [], {}, {"made": 1}, ((),), (("made", 1), ()), (1, 2), (1, 2, 3), ([], []), ({}, {}, {}), nested(59, 0)]:
            self.tell(thing, False)

    def test_by_chance(self):
        for seed in range(300):
            self.tell(chance_outcome(random.Random(seed)), True)

    def test_nothing_handed_in_is_changed(self):
        for thing in [["made", [1]], {"made": [1]}, ("made", [1, [2]]), ("wrong", ["kind"], {"a": [1]})]:
            before = copy.deepcopy(thing)
            self.tell(thing, False)
            self.assertEqual(thing, before)


class Made(unittest.TestCase):
    def test_of_worths(self):
        for worth in SOME + [("a" * 399, "b" * 399, "c" * 198), "a" * 400]:
            self.assertEqual(made(worth), ("made", worth))
            self.assertIs(is_outcome(made(worth)), True)

    def test_of_what_is_one_but_for_a_bound(self):
        for thing in BEYOND:
            self.assertEqual(made(thing), GREAT)
            self.assertEqual(made((thing,)), GREAT)
            self.assertEqual(made((1, ("a", thing), ())), GREAT)

    def test_the_same_again(self):
        for thing in SOME + BEYOND + SOME:
            self.assertEqual(made(thing), made(thing))


class Reckoned(unittest.TestCase):
    def check(self, word, worths, expected):
        handed = list(worths)
        found = reckoned(word, handed)
        self.assertEqual(found, expected, (word, repr(worths)[:300]))
        self.assertEqual(repr(found), repr(expected), (word, repr(worths)[:300]))
        self.assertEqual(handed, list(worths))
        self.assertIs(is_outcome(found), True)
        self.assertEqual(reckoned(word, handed), expected)

    def test_sums_differences_products(self):
        for one, other in [(0, 0), (1, 2), (-1, 2), (7, -9), (-3, -4), (GREATEST, 0), (10 ** 30, -(10 ** 29)), (5, 5)]:
            self.check("+", [one, other], ("made", one + other))
            self.check("-", [one, other], ("made", one - other))
            self.check("*", [one, other], ("made", one * other))
        self.check("+", [2, 3], ("made", 5))
        self.check("-", [2, 3], ("made", -1))
        self.check("*", [2, -3], ("made", -6))
        self.check("-", [10, 4], ("made", 6))

    def test_quotients_rounded_down(self):
        for one, other, expected in [
            (7, 2, 3), (-7, 2, -4), (7, -2, -4), (-7, -2, 3), (6, 3, 2), (-6, 3, -2), (6, -3, -2), (0, 5, 0), (0, -5, 0),
            (1, 2, 0), (-1, 2, -1), (1, -2, -1), (GREATEST, 1, GREATEST), (GREATEST, -1, -GREATEST), (1, GREATEST, 0),
            (-1, GREATEST, -1), (GREATEST, 10, 10 ** 59 - 1), (10 ** 59 + 1, 3, 10 ** 59 // 3), (-GREATEST, 2, -5 * 10 ** 59),
        ]:
            self.check("/", [one, other], ("made", expected))

    def test_nought(self):
        for one in (0, 1, -5, GREATEST):
            self.check("/", [one, 0], NOUGHT)
        for one in ("", "a", (), (0,)):
            self.check("/", [one, 0], KIND)

    def test_great_numbers(self):
        self.check("+", [GREATEST, 1], GREAT)
        self.check("+", [GREATEST - 1, 1], ("made", GREATEST))
        self.check("+", [-GREATEST, -1], GREAT)
        self.check("-", [-GREATEST, 1], GREAT)
        self.check("-", [-GREATEST, -1], ("made", 1 - GREATEST))
        self.check("-", [GREATEST, -1], GREAT)
        self.check("*", [10 ** 30, 10 ** 30], GREAT)
        self.check("*", [10 ** 30, 10 ** 29], ("made", 10 ** 59))
        self.check("*", [10 ** 30, -(10 ** 30)], GREAT)
        self.check("*", [GREATEST, GREATEST], GREAT)
        self.check("*", [-GREATEST, 1], ("made", -GREATEST))

    def test_less(self):
        for one, other in [(0, 0), (0, 1), (1, 0), (-1, 0), (0, -1), (-2, -1), (GREATEST, -GREATEST), (-GREATEST, GREATEST),
                           (2, 10), (10, 2)]:
            self.check("less", [one, other], ("made", 1 if one < other else 0))

    def test_numbers_alone(self):
        others = ["", "a", "1", (), (1,), ("1",)]
        for word in ("+", "-", "*", "/", "less"):
            for other in others:
                self.check(word, [1, other], KIND)
                self.check(word, [other, 1], KIND)
                for another in others:
                    self.check(word, [other, another], KIND)

    def test_same(self):
        for place, one in enumerate(SOME):
            for number, other in enumerate(SOME):
                self.check("same", [one, other], ("made", 1 if place == number else 0))
        self.check("same", [1, "1"], ("made", 0))
        self.check("same", ["a", ("a",)], ("made", 0))
        self.check("same", [(1, (2,)), (1, (2,))], ("made", 1))
        self.check("same", [(1, (2,)), (1, (3,))], ("made", 0))

    def test_join(self):
        self.check("join", ["ab", "c"], ("made", "abc"))
        self.check("join", ["", ""], ("made", ""))
        self.check("join", ["a", ""], ("made", "a"))
        self.check("join", [(1, 2), (3,)], ("made", (1, 2, 3)))
        self.check("join", [(), ()], ("made", ()))
        self.check("join", [((1,),), ("a",)], ("made", ((1,), "a")))
        for one, other in [("a", ("a",)), (("a",), "a"), ("", ()), ((), ""), (1, "a"), ("a", 1), (1, (1,)), ((1,), 1),
                           (1, 2), (0, 0)]:
            self.check("join", [one, other], KIND)

    def test_join_that_is_great(self):
        self.check("join", ["a" * 399, "b"], ("made", "a" * 399 + "b"))
        self.check("join", ["a" * 400, "b"], GREAT)
        self.check("join", ["a" * 400, ""], ("made", "a" * 400))
        self.check("join", [(1,) * 59, (2,)], ("made", (1,) * 59 + (2,)))
        self.check("join", [(1,) * 60, (2,)], GREAT)
        self.check("join", [(1,) * 60, ()], ("made", (1,) * 60))
        self.check("join", [("a" * 399, "b" * 399), ("c" * 198,)], ("made", ("a" * 399, "b" * 399, "c" * 198)))
        self.check("join", [("a" * 399, "b" * 399), ("c" * 199,)], GREAT)

    def test_list(self):
        self.check("list", [], ("made", ()))
        self.check("list", [1], ("made", (1,)))
        self.check("list", [()], ("made", ((),)))
        self.check("list", [3, "a", (1,), 2], ("made", (3, "a", (1,), 2)))
        self.check("list", [1, 2, 3, 4, 5, 6, 7, 8], ("made", (1, 2, 3, 4, 5, 6, 7, 8)))
        self.check("list", [nested(11, 0)], ("made", nested(12, 0)))
        self.check("list", [nested(12, 0)], GREAT)
        self.check("list", [1, nested(12, 0), 2], GREAT)
        self.check("list", ["a" * 399, "b" * 399, "c" * 198], ("made", ("a" * 399, "b" * 399, "c" * 198)))
        self.check("list", ["a" * 399, "b" * 399, "c" * 199], GREAT)

    def test_item(self):
        items = (5, "a", (1,))
        for place, item in enumerate(items):
            self.check("item", [items, place], ("made", item))
        for place in (-1, -2, -3, -4, 3, 4, 100, GREATEST, -GREATEST):
            self.check("item", [items, place], PLACE)
        for place in (0, -1, 1):
            self.check("item", [(), place], PLACE)
        self.check("item", [(0,) * 59 + (7,), 59], ("made", 7))
        self.check("item", [(0,) * 60, 60], PLACE)
        for one, other in [("abc", 1), (1, 1), (items, "1"), (items, (1,)), (items, ()), ("abc", "a"), (1, items), (0, 0),
                           ("", 0), (items, "")]:
            self.check("item", [one, other], KIND)

    def test_count(self):
        for worth, expected in [("", 0), ("a", 1), ("a b", 3), ("a" * 400, 400), ((), 0), ((1,), 1), (((1, 2), 3), 2),
                                ((0,) * 60, 60), (("abc",), 1)]:
            self.check("count", [worth], ("made", expected))
        for number in (0, 1, -1, 12345):
            self.check("count", [number], KIND)

    def test_figures(self):
        for number, expected in [(0, "0"), (7, "7"), (-7, "-7"), (100, "100"), (-1200, "-1200"), (GREATEST, "9" * 60),
                                 (-GREATEST, "-" + "9" * 60)]:
            self.check("figures", [number], ("made", expected))
        for worth in ("", "1", "a", (), (1,)):
            self.check("figures", [worth], KIND)

    def test_the_same_again(self):
        asked = []
        for seed in range(300):
            chance = random.Random(seed)
            word = chance.choice(["+", "-", "*", "/", "same", "less", "join", "list", "item", "count", "figures"])
            count = {"list": chance.randrange(9), "count": 1, "figures": 1}.get(word, 2)
            asked.append((word, [chance_worth(chance, 2) for _ in range(count)]))
        first = [reckoned(word, worths) for word, worths in asked]
        self.assertEqual([reckoned(word, worths) for word, worths in reversed(asked)], first[::-1])


if __name__ == "__main__":
    unittest.main()
