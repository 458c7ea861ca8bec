import random
import unittest

from leastforge.forms import is_rule
from leastforge.formtexts import read_rule
from leastforge.papers import is_right, paper_of
from leastforge.shelf import Shelf
from tests.reference import KIND, plain_paper
from tests.samples import at, changed, chance_expression, chance_outcome, shelf_of, spots

LIT = ("lit", 1)
LOOK = read_rule('(look "a.b")')
TWICE = read_rule('(list (look "a.b") (look "a.b") 1)')
ONE = paper_of(LIT, [])
LOOKED = paper_of(LOOK, [("made", 5)])
WRONG = paper_of(LOOK, [KIND])
DOUBLE = paper_of(TWICE, [("made", 0), ("made", (1, 0))])

# What may be laid, though it is no paper.
OTHERS = [0, 1, -1, 10 ** 199, "", "paper", "a" * 2000, None, True, False, (), (None,), (True, 1), (1, 2, 3), ((), (), ()), ONE[:2],
          ONE + (None,), (ONE,), (LIT, (), None), (LIT, None, ONE[2]), (None, (), ONE[2]), (0,) * 39000]


class Laying(unittest.TestCase):
    def test_a_new_shelf(self):
        self.assertEqual(Shelf().lying(), [])
        self.assertIs(type(Shelf().lying()), list)

    def test_in_order(self):
        shelf = Shelf()
        rows = []
        for who, paper in [("zoe", LOOKED), ("abe", ONE), ("", WRONG), ("no word~", DOUBLE), ("abe", LOOKED)]:
            self.assertIsNone(shelf.lay(who, paper))
            rows.append((who, paper))
            self.assertEqual(shelf.lying(), rows)
        self.assertTrue(all(type(row) is tuple and len(row) == 2 for row in shelf.lying()))

    def test_the_same_paper_twice(self):
        rows = [("abe", ONE), ("abe", ONE), ("zoe", ONE), ("abe", ONE)]
        self.assertEqual(shelf_of(rows).lying(), rows)

    def test_what_is_no_paper(self):
        rows = [("abe", thing) for thing in OTHERS]
        self.assertEqual(shelf_of(rows).lying(), rows)
        self.assertEqual(repr(shelf_of(rows).lying()), repr(rows))

    def test_a_new_list_each_time(self):
        shelf = shelf_of([("abe", ONE), ("zoe", LOOKED)])
        first = shelf.lying()
        first.append(("bad", None))
        first[0] = None
        self.assertEqual(shelf.lying(), [("abe", ONE), ("zoe", LOOKED)])
        self.assertIsNot(shelf.lying(), shelf.lying())

    def test_two_shelves(self):
        one = Shelf()
        other = Shelf()
        one.lay("abe", ONE)
        self.assertEqual(other.lying(), [])

    def test_a_thousand(self):
        rows = [("abe", paper_of(("lit", number), [])) for number in range(1000)]
        shelf = shelf_of(rows)
        self.assertEqual(shelf.lying(), rows)
        self.assertEqual(shelf.fitting(("lit", 700)), [rows[700]])
        self.assertIs(shelf.has(rows[999][1]), True)
        self.assertIs(shelf.has(paper_of(("lit", 1000), [])), False)


class Copies(unittest.TestCase):
    def test_copy(self):
        shelf = shelf_of([("abe", ONE)])
        other = shelf.copy()
        self.assertIsInstance(other, Shelf)
        self.assertIsNot(other, shelf)
        self.assertEqual(other.lying(), [("abe", ONE)])
        shelf.lay("zoe", LOOKED)
        self.assertEqual(other.lying(), [("abe", ONE)])
        self.assertIs(other.has(LOOKED), False)
        other.lay("bob", WRONG)
        other.lay("bob", None)
        self.assertEqual(shelf.lying(), [("abe", ONE), ("zoe", LOOKED)])
        self.assertEqual(other.lying(), [("abe", ONE), ("bob", WRONG), ("bob", None)])
        self.assertEqual(shelf.fitting(LOOK), [("zoe", LOOKED)])
        self.assertEqual(other.fitting(LOOK), [("bob", WRONG)])

    def test_of_an_empty_one(self):
        shelf = Shelf()
        other = shelf.copy()
        other.lay("abe", ONE)
        self.assertEqual(shelf.lying(), [])


class Fitting(unittest.TestCase):
    def fits(self, rows, rule, expected):
        shelf = shelf_of(rows)
        self.assertEqual(shelf.fitting(rule), expected)
        self.assertEqual(repr(shelf.fitting(rule)), repr(expected))
        self.assertIs(type(shelf.fitting(rule)), list)
        self.assertEqual(shelf.lying(), rows)

    def test_none(self):
        self.fits([], LIT, [])
        self.fits([("abe", ONE)], LOOK, [])
        self.fits([("abe", ONE)], ("lit", 2), [])

    def test_among_others(self):
        rows = [("zoe", LOOKED), ("abe", ONE), ("abe", WRONG), ("bob", DOUBLE), ("abe", LOOKED), ("zoe", ONE)]
        self.fits(rows, LOOK, [("zoe", LOOKED), ("abe", WRONG), ("abe", LOOKED)])
        self.fits(rows, LIT, [("abe", ONE), ("zoe", ONE)])
        self.fits(rows, TWICE, [("bob", DOUBLE)])
        self.fits(rows, ("lit", 0), [])

    def test_the_same_paper_twice(self):
        rows = [("abe", ONE), ("abe", ONE), ("zoe", ONE)]
        self.fits(rows, LIT, rows)

    def test_things_that_are_no_papers(self):
        rows = [("abe", thing) for thing in OTHERS] + [("zoe", ONE)] + [("abe", thing) for thing in OTHERS]
        self.fits(rows, LIT, [("zoe", ONE)])
        self.fits(rows, LOOK, [])

    def test_papers_that_are_not_right(self):
        lies = [LOOKED[:2] + (WRONG[2],), LOOKED[:2] + ONE[2:], (LOOK, (), LOOKED[2]), (LOOK, LOOKED[1] * 2, LOOKED[2]),
                (LOOK, (("a.c", ("made", 5)),), LOOKED[2]), (LOOK, (("a.b", ("made", 6)),), LOOKED[2]), (LOOK, None, None)]
        rows = [("liar", lie) for lie in lies]
        self.fits(rows, LOOK, [])
        self.fits(rows[:3] + [("abe", LOOKED)] + rows[3:] + [("bob", WRONG)], LOOK, [("abe", LOOKED), ("bob", WRONG)])

    def test_equal_but_for_kinds(self):
        rows = [("liar", changed(ONE, way, bool)) for way in spots(ONE) if at(ONE, way) in (0, 1)]
        rows.append(("liar", (("lit", True), (), (("made", True), ()))))
        self.assertGreaterEqual(len(rows), 3)
        self.fits(rows, LIT, [])
        self.fits(rows + [("abe", ONE)] + rows, LIT, [("abe", ONE)])
        rows = [("liar", changed(DOUBLE, way, bool)) for way in spots(DOUBLE) if at(DOUBLE, way) in (0, 1)]
        self.assertGreater(len(rows), 8)
        self.fits(rows, TWICE, [])
        self.fits(rows + [("abe", DOUBLE)], TWICE, [("abe", DOUBLE)])

    def test_rules_that_go_alike(self):
        # Both have the same looks and the same record.
        plus = paper_of(read_rule('(+ (look "a.b") 2)'), [("made", 2)])
        times = paper_of(read_rule('(* (look "a.b") 2)'), [("made", 2)])
        self.assertEqual(plus[1:], times[1:])
        self.fits([("abe", plus), ("zoe", times)], times[0], [("zoe", times)])

    def test_a_new_list_each_time(self):
        shelf = shelf_of([("abe", ONE), ("zoe", ONE)])
        first = shelf.fitting(LIT)
        first.append("spoilt")
        first[0] = "spoilt"
        self.assertEqual(shelf.fitting(LIT), [("abe", ONE), ("zoe", ONE)])

    def test_by_chance(self):
        for seed in range(60):
            chance = random.Random(seed)
            rules = [rule for rule in [chance_expression(chance, 3, []) for _ in range(4)] if is_rule(rule)]
            rows = []
            for number in range(12 if rules else 0):
                paper = plain_paper(chance.choice(rules), [chance_outcome(chance) for _ in range(40)])
                if paper is not None:
                    if chance.random() < 0.4:
                        paper = (chance.choice(rules),) + paper[1:]
                    rows.append((chance.choice(["abe", "zoe"]), paper))
            for rule in rules:
                self.fits(rows, rule, [row for row in rows if row[1][0] == rule and is_right(row[1])])

    def test_the_same_again(self):
        shelf = shelf_of([("abe", ONE), ("zoe", LOOKED), ("bob", None), ("abe", WRONG)])
        first = [shelf.fitting(rule) for rule in (LIT, LOOK, TWICE)]
        shelf.has(LOOKED)
        self.assertEqual([shelf.fitting(rule) for rule in (TWICE, LOOK, LIT)], first[::-1])


class Has(unittest.TestCase):
    def has(self, shelf, thing):
        self.assertIs(shelf.has(thing), True, thing)

    def has_not(self, shelf, thing):
        self.assertIs(shelf.has(thing), False, thing)

    def test_on_a_shelf_without_rows(self):
        for thing in [ONE, LOOKED] + OTHERS:
            self.has_not(Shelf(), thing)

    def test_papers(self):
        shelf = shelf_of([("abe", ONE), ("zoe", LOOKED), ("abe", ONE)])
        self.has(shelf, ONE)
        self.has(shelf, LOOKED)
        self.has(shelf, paper_of(("lit", 1), []))
        self.has_not(shelf, WRONG)
        self.has_not(shelf, DOUBLE)
        self.has_not(shelf, paper_of(("lit", 2), []))
        self.has_not(shelf, ("abe", ONE))
        self.has_not(shelf, "abe")

    def test_anything_that_may_be_laid(self):
        for place, thing in enumerate(OTHERS):
            shelf = shelf_of([("abe", thing)])
            for other_place, other in enumerate(OTHERS):
                self.assertIs(shelf.has(other), place == other_place, (thing, other))
        shelf = shelf_of([("abe", thing) for thing in OTHERS])
        for thing in OTHERS:
            self.has(shelf, thing)

    def test_papers_that_are_not_right(self):
        lie = LOOKED[:2] + WRONG[2:]
        self.has(shelf_of([("liar", lie)]), lie)
        self.has_not(shelf_of([("liar", lie)]), LOOKED)

    def test_equal_but_for_a_truth(self):
        for one, other in [(1, True), (0, False), ((1,), (True,)), ((0, (1, ("a", (0,)))), (0, (1, ("a", (False,))))),
                           (("a", 1, None), ("a", True, None))]:
            self.has_not(shelf_of([("abe", one)]), other)
            self.has_not(shelf_of([("abe", other)]), one)
            self.has(shelf_of([("abe", one), ("abe", other)]), one)
            self.has(shelf_of([("abe", one), ("abe", other)]), other)

    def test_at_any_depth_of_a_paper(self):
        for paper in (ONE, DOUBLE):
            for way in spots(paper):
                if at(paper, way) in (0, 1):
                    other = changed(paper, way, bool)
                    self.has_not(shelf_of([("abe", paper)]), other)
                    self.has_not(shelf_of([("abe", other)]), paper)
                    self.has(shelf_of([("abe", other)]), other)
                    self.has(shelf_of([("abe", other), ("abe", paper)]), paper)

    def test_deep(self):
        one = 1
        other = True
        for _ in range(59):
            one = (one,)
            other = (other,)
        self.has(shelf_of([("abe", one)]), one)
        self.has_not(shelf_of([("abe", one)]), other)
        self.has_not(shelf_of([("abe", one)]), one[0])

    def test_the_same_again(self):
        shelf = shelf_of([("abe", ONE), ("zoe", 1), ("abe", None)])
        things = [ONE, LOOKED, 1, True, None, ()]
        first = [shelf.has(thing) for thing in things]
        self.assertEqual(first, [True, False, True, False, True, False])
        shelf.fitting(LIT)
        self.assertEqual([shelf.has(thing) for thing in reversed(things)], first[::-1])


if __name__ == "__main__":
    unittest.main()
