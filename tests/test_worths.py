import copy
import random
import unittest

from leastforge.worths import depth, is_worth, same, size
from tests.samples import SIGNS, chance_worth, nested

GREATEST = 10 ** 60 - 1

NO_WORTHS = [
    GREATEST + 1, -GREATEST - 1, 10 ** 61, -(10 ** 61), 10 ** 199, -(10 ** 199),
    True, False, None,
    "a" * 401, " " * 401, "a" * 2000,
    '"', "\n", "\t", 'a"', "a\n", "a\t", '"a', "\na", "\ta", 'a"b', "a\nb", "a\tb",
    (0,) * 61, ((),) * 61, ("",) * 61,
    [], [1], ["a"], {}, {"a": 1}, {1: 2},
]

WORTHS = [
    0, 1, -1, GREATEST, -GREATEST, GREATEST - 1,
    "", "a", " ", "~", "a" * 400, "~" * 400, "True", "None", "0",
    (), (0,) * 60, ((),) * 60, ("",) * 60, (1, "a", ()),
]


def of_size(whole):
    """Worths of that size, 1,000 or somewhat about it, of unlike shapes."""
    rest = whole - 801
    yield ("a" * 399, "b" * 399, "c" * (rest - 1))
    yield ("c" * (rest - 1), "a" * 399, "b" * 399)
    yield ((0,) * 60,) * 16 + (7,) * (whole - 977)
    yield (7,) * (whole - 977) + ((0,) * 60,) * 16
    yield (((0,) * 60,) * 16 + (7,) * (whole - 978),)
    yield (("a" * 399, ("b" * 399, ("c" * (rest - 4),))),)


class IsWorth(unittest.TestCase):
    def tell(self, thing, expected):
        self.assertIs(is_worth(thing), expected, repr(thing)[:200])

    def test_worths_by_themselves(self):
        for thing in WORTHS:
            self.tell(thing, True)

    def test_no_worths_by_themselves(self):
        for thing in NO_WORTHS:
            self.tell(thing, False)

    def test_worths_within_worths(self):
        for thing in WORTHS:
            self.tell((thing,), True)
            self.tell((1, ("a", thing), 2), True)
            self.tell(nested(9, (0, thing)), True)

    def test_no_worths_within_worths(self):
        for thing in NO_WORTHS:
            self.tell((thing,), False)
            self.tell((1, "a", thing), False)
            self.tell((thing, 1, "a"), False)
            self.tell((1, ("a", thing, ()), 2), False)
            self.tell(nested(11, thing), False)
            self.tell(((0,) * 30, (0,) * 30 + (thing,)), False)

    def test_each_sign(self):
        for sign in SIGNS:
            for text in (sign, sign + "a", "a" + sign, "a" + sign + "b", sign * 400):
                self.tell(text, True)
                self.tell((1, (text,)), True)
        self.assertEqual(len(SIGNS), 93)

    def test_signs_that_no_text_has(self):
        for sign in '"\n\t':
            for text in (sign, sign + "a", "a" + sign, "a" * 200 + sign + "b", sign * 3):
                self.tell(text, False)
                self.tell((1, (text,)), False)

    def test_count_of_signs(self):
        for many in (0, 1, 399, 400):
            self.tell("a" * many, True)
        for many in (401, 402, 500, 999, 1000):
            self.tell("a" * many, False)
            self.tell((("a" * many,),), False)

    def test_count_of_items(self):
        for many in (0, 1, 59, 60):
            self.tell((1,) * many, True)
            self.tell(((1,) * many, 2), True)
        for many in (61, 62, 100):
            self.tell((1,) * many, False)
            self.tell((2, (1,) * many), False)

    def test_nested_lists(self):
        for inner in (0, "a"):
            self.tell(nested(12, inner), True)
            self.tell(nested(13, inner), False)
            self.tell(nested(60, inner), False)
        self.tell(nested(11, ()), True)
        self.tell(nested(12, ()), False)
        self.tell(nested(59, ()), False)

    def test_nested_at_another_place(self):
        for lists, expected in ((11, True), (12, False)):
            deep = nested(lists, 0)
            self.tell((deep, 1), expected)
            self.tell((1, deep), expected)
            self.tell(("a", (), deep, (1,)), expected)
        self.tell((1, (2, nested(10, 0), 3), 4), True)
        self.tell((1, (2, nested(11, 0), 3), 4), False)

    def test_sizes(self):
        for whole in (999, 1000):
            for thing in of_size(whole):
                self.assertEqual(size(thing), whole)
                self.tell(thing, True)
        for whole in (1001, 1002):
            for thing in of_size(whole):
                self.assertEqual(size(thing), whole)
                self.tell(thing, False)

    def test_sizes_within_a_list(self):
        for thing in of_size(999):
            self.tell((thing,), True)
        for thing in of_size(1000):
            self.tell((thing,), False)
        for thing in of_size(998):
            self.tell(((thing,),), True)
            self.tell((thing, ""), True)
            self.tell((thing, 0), True)
            self.tell((thing, ()), True)
            self.tell(("a", thing), False)
            self.tell((1, thing, ()), False)

    def test_far_beyond(self):
        self.tell(((0,) * 60,) * 60, False)
        self.tell(tuple(range(30000)), False)
        self.tell((["a"], {"b": ()}, (None,)), False)
        self.tell([(1, 2)], False)

    def test_nothing_handed_in_is_changed(self):
        for thing in NO_WORTHS + WORTHS + [([1, [2]], {"a": [3]}), [{"a": (1, [2])}]]:
            before = copy.deepcopy(thing)
            is_worth(thing)
            self.assertEqual(thing, before)

    def test_the_same_again(self):
        things = NO_WORTHS + WORTHS
        first = [is_worth(thing) for thing in things]
        self.assertEqual([is_worth(thing) for thing in reversed(things)], first[::-1])
        self.assertEqual([is_worth(thing) for thing in things], first)


class SizeAndDepth(unittest.TestCase):
    def test_size(self):
        for worth, expected in [
            (0, 1), (-5, 1), (GREATEST, 1), ("", 1), ("a", 2), ("abc", 4), ("a" * 400, 401),
            ((), 1), ((0,), 2), (("",), 2), (("ab",), 4), ((1, 2, 3), 4), (((), ()), 3),
            ((1, ("a", (2, ())), "bc"), 11), ((0,) * 60, 61), (nested(12, 0), 13),
        ]:
            self.assertEqual(size(worth), expected, worth)

    def test_depth(self):
        for worth, expected in [
            (0, 0), (GREATEST, 0), ("", 0), ("((", 0), ((), 1), ((0,), 1), (("a", 1), 1),
            (((),), 2), ((1, (2,), 3), 2), (((1, ((),)), 2), 4), ((2, (1, ((),))), 4),
            ((1, (), ((2,),), 3), 3), ((((),), 1, ()), 3), (nested(12, 0), 12), (nested(11, ()), 12),
        ]:
            self.assertEqual(depth(worth), expected, worth)

    def test_whole_numbers_are_told(self):
        for worth in WORTHS:
            self.assertIs(type(size(worth)), int)
            self.assertIs(type(depth(worth)), int)

    def test_the_same_again(self):
        worths = WORTHS + [nested(12, "a"), (1, ("a", (2,)))]
        first = [(size(worth), depth(worth)) for worth in worths]
        self.assertEqual([(size(worth), depth(worth)) for worth in worths], first)


class Same(unittest.TestCase):
    def tell(self, one, other, expected):
        self.assertIs(same(one, other), expected, (one, other))
        self.assertIs(same(other, one), expected, (other, one))

    def test_equal_ones_built_twice(self):
        for seed in range(200):
            one = chance_worth(random.Random(seed))
            other = chance_worth(random.Random(seed))
            self.tell(one, other, True)
        self.tell(nested(12, "a" * 400), nested(12, "".join(["a"] * 400)), True)
        self.tell(int("9" * 60), GREATEST, True)

    def test_alike_but_for_one_place(self):
        for one, other in [
            (1, 2), (1, -1), (0, 1), (GREATEST, GREATEST - 1), (GREATEST, -GREATEST),
            ("a", "b"), ("a", "A"), ("a", "a "), (" a", "a"), ("", " "), ("a" * 400, "a" * 399 + "b"),
            ((), (0,)), ((1, 2), (2, 1)), ((1, 2, 3), (1, 2, 4)), ((1, 2, 3), (0, 2, 3)),
            ((1, (2, ("a",))), (1, (2, ("b",)))), (((1,), 2), ((1,), 3)), (((),), ((), ())),
            (nested(12, 0), nested(12, 1)), (nested(11, 0), nested(12, 0)), ((0,) * 60, (0,) * 59 + (1,)),
        ]:
            self.tell(one, other, False)

    def test_unlike_kinds(self):
        for one, other in [
            (1, "1"), (0, ""), (0, "0"), (-7, "-7"), (0, ()), ("", ()), ("a", ("a",)), (1, (1,)),
            ((1,), ("1",)), ((1, (2,)), (1, 2)), ("ab", ("a", "b")), (((),), ()), ((("a",),), ("a",)),
        ]:
            self.tell(one, other, False)

    def test_without_the_last_item(self):
        for worth in [(1,), (1, 2), ("a", ()), ((), ()), (0,) * 60, (1, (2, 3))]:
            self.tell(worth, worth[:-1], False)
            self.tell((0, worth), (0, worth[:-1]), False)

    def test_of_all_pairs(self):
        worths = WORTHS + [(1,), ("1",), "1"]
        for place, one in enumerate(worths):
            for number, other in enumerate(worths):
                self.tell(one, other, place == number)


if __name__ == "__main__":
    unittest.main()
