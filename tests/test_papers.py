import random
import unittest

from leastforge.forms import is_rule
from leastforge.formtexts import read_rule
from leastforge.papers import founds_of, is_right, names_of, outcome_of, paper_of
from tests.reference import GREAT, KIND, NOUGHT, PLACE, plain_paper, plainly_gone
from tests.samples import (FEW, ONE, TWO, WRITTEN, at, changed, chance_rule_and_founds, chance_worth, counts, nested,
                           of_sixty, spots)

# Rules with looks in all sorts of places, and founds with which their runs end.
ENDING = [
    ("1", []),
    ("(list 1 0 (lit (0 (1))))", []),
    ("(cry 0)", []),
    ('(look "a.b")', [("made", 7)]),
    ('(look "a.b")', [("made", 1)]),
    ('(look "")', [("wrong", "none", "")]),
    ('(look 0)', []),
    ('(+ (look "a.b") (look "a.c"))', [("made", 1), ("made", 0)]),
    ('(list (look "a.b") (look "a.b"))', [("made", 1), ("made", (1, 0))]),
    ('(list (look "a.b") (look "a.b"))', [("made", 1), ("wrong", "shut", "a.b")]),
    ('(else (look "a.b") (look "a.c"))', [("made", 1)]),
    ('(else (look "a.b") (look "a.c"))', [("wrong", "cried", 1), ("made", 0)]),
    ('(else (look "a.b") (look "a.c"))', [("wrong", "cried", 1), ("wrong", "cried", 0)]),
    ('(if (look "a.b") (look "a.c") (look "a.d"))', [("made", 1), ("made", 5)]),
    ('(if (look "a.b") (look "a.c") (look "a.d"))', [("made", 0), ("made", 5)]),
    ('(if (look "a.b") (look "a.c") (look "a.d"))', [("made", "")]),
    ('(each x (lit ("a" "b" "a")) (look x))', [("made", 1), ("made", 0), ("made", 2)]),
    ('(each x (lit ("a" "b" "a")) (look x))', [("made", 1), NOUGHT]),
    ('(over x y (look "a.b") (look "a.c") (join y (look x)))',
     [("made", ("c", "d")), ("made", "1"), ("made", "2"), ("made", "3")]),
    ('(look (join (look "a.b") ".c"))', [("made", "b"), ("made", 1)]),
    ('(let x (look "a.b") (list x x))', [("made", (1, (0,)))]),
]


def record_of_look(found, name="a.b"):
    return (found, ((("made", name), ()),))


def chance_papers(many):
    for seed in range(many):
        rule, founds = chance_rule_and_founds(random.Random(seed))
        if is_rule(rule):
            paper = plain_paper(rule, founds)
            if paper is not None:
                yield paper


class PaperOf(unittest.TestCase):
    def test_its_three_parts(self):
        rule = read_rule('(- (look "a.b") 2)')
        self.assertEqual(paper_of(rule, [("made", 5)]), (
            ("-", ("look", ("lit", "a.b")), ("lit", 2)),
            (("a.b", ("made", 5)),),
            (("made", 3), ((("made", 5), ((("made", "a.b"), ()),)), (("made", 2), ())))))

    def test_without_looks(self):
        self.assertEqual(paper_of(("lit", 1), []), (("lit", 1), (), (("made", 1), ())))
        self.assertEqual(paper_of(("cry", ONE), []), (("cry", ONE), (), (("wrong", "cried", 1), ((("made", 1), ()),))))

    def test_all_sorts(self):
        for text, founds in ENDING:
            rule = read_rule(text)
            paper = paper_of(rule, founds)
            self.assertEqual(paper, plain_paper(rule, founds), text)
            self.assertEqual(repr(paper), repr(plain_paper(rule, founds)), text)
            self.assertEqual(len(paper[1]), len(founds), text)

    def test_tuples_all_through(self):
        for text, founds in ENDING:
            paper = paper_of(read_rule(text), founds)
            for way in spots(paper):
                self.assertIn(type(at(paper, way)), (tuple, str, int))

    def test_founds_beyond_stay(self):
        more = [("made", 9), "not read", None]
        for text, founds in ENDING:
            rule = read_rule(text)
            handed = founds + more
            self.assertEqual(paper_of(rule, handed), paper_of(rule, founds), text)
            self.assertEqual(handed, founds + more)

    def test_unlike_things_found_at_one_name(self):
        paper = paper_of(read_rule('(list (look "a.b") (look "a.b"))'), [("made", 1), ("made", 2)])
        self.assertEqual(paper[1], (("a.b", ("made", 1)), ("a.b", ("made", 2))))
        self.assertEqual(paper[2][0], ("made", (1, 2)))

    def test_what_is_changed_behind_the_call(self):
        founds = [("made", 1), ("made", 2)]
        paper = paper_of(read_rule('(list (look "a.b") (look "a.c"))'), founds)
        kept = repr(paper)
        founds[0] = KIND
        founds.clear()
        self.assertEqual(repr(paper), kept)

    def test_by_chance(self):
        for paper in chance_papers(600):
            self.assertEqual(paper_of(paper[0], [found for name, found in paper[1]]), paper)


class Parts(unittest.TestCase):
    def test_none_one_and_several_looks(self):
        for text, founds in ENDING:
            paper = plain_paper(read_rule(text), founds)
            self.assertEqual(outcome_of(paper), paper[2][0])
            self.assertEqual(founds_of(paper), founds)
            self.assertEqual(names_of(paper), plainly_gone(paper[0], founds)[1])
            self.assertIs(type(founds_of(paper)), list)
            self.assertIs(type(names_of(paper)), list)

    def test_some(self):
        none = paper_of(ONE, [])
        self.assertEqual((outcome_of(none), founds_of(none), names_of(none)), (("made", 1), [], []))
        one = paper_of(read_rule('(look "a.b")'), [KIND])
        self.assertEqual((outcome_of(one), founds_of(one), names_of(one)), (KIND, [KIND], ["a.b"]))
        two = paper_of(read_rule('(list (look "z") (look "a"))'), [("made", 1), ("made", 2)])
        self.assertEqual((outcome_of(two), founds_of(two), names_of(two)),
                         (("made", (1, 2)), [("made", 1), ("made", 2)], ["z", "a"]))

    def test_new_lists_each_time(self):
        for text, founds in ENDING:
            paper = paper_of(read_rule(text), founds)
            names = names_of(paper)
            for ask in (founds_of, names_of):
                first = ask(paper)
                first.append("spoilt")
                self.assertIsNot(ask(paper), first)
            self.assertEqual(founds_of(paper), founds)
            self.assertEqual(names_of(paper), names)


class Right(unittest.TestCase):
    def right(self, thing):
        self.assertIs(is_right(thing), True, thing)

    def wrong(self, thing):
        self.assertIs(is_right(thing), False, thing)

    def papers(self):
        return [plain_paper(read_rule(text), founds) for text, founds in ENDING]

    def test_papers_of_runs(self):
        for paper in self.papers():
            self.right(paper)
        for rule, text in WRITTEN:
            for found in (("made", 1), KIND):
                self.right(plain_paper(rule, [found]))
        seen = 0
        for paper in chance_papers(2000):
            self.right(paper)
            seen += 1
        self.assertGreater(seen, 1000)

    def test_a_look_more(self):
        for rule, looks, record in self.papers():
            for found in (("made", 1), KIND):
                for place in range(len(looks) + 1):
                    self.wrong((rule, looks[:place] + (("other", found),) + looks[place:], record))
                self.wrong((rule, looks + looks[:1] + (("a.b", found),), record))

    def test_a_look_fewer(self):
        for rule, looks, record in self.papers():
            for place in range(len(looks)):
                self.wrong((rule, looks[:place] + looks[place + 1:], record))

    def test_a_look_more_than_the_run_has(self):
        rule, looks, record = paper_of(read_rule('(look "a.b")'), [("made", 7)])
        self.wrong((rule, looks + looks, record))
        self.wrong((rule, (), record))

    def test_looks_in_another_order(self):
        rule, looks, record = paper_of(read_rule('(list (look "a") (look "b"))'), [("made", 1), ("made", 1)])
        self.wrong((rule, looks[::-1], record))

    def test_another_name(self):
        for rule, looks, record in self.papers():
            for place, (name, found) in enumerate(looks):
                for other in (name + "x", "", "a.z", "A"):
                    if other != name:
                        self.wrong((rule, looks[:place] + ((other, found),) + looks[place + 1:], record))

    def test_another_found(self):
        for rule, looks, record in self.papers():
            for place, (name, found) in enumerate(looks):
                for other in (("made", 99), ("made", "0"), KIND, GREAT, ("wrong", "none", "zz"), ("wrong", "cried", "1")):
                    self.wrong((rule, looks[:place] + ((name, other),) + looks[place + 1:], record))

    def test_another_rule(self):
        rule, looks, record = paper_of(read_rule('(+ (look "a.b") 2)'), [("made", 2)])
        self.wrong((read_rule('(+ (look "a.b") 3)'), looks, record))
        self.wrong((read_rule('(* (look "a.c") 2)'), looks, record))
        # What comes is the same, and so is all that was gone through.
        self.right((read_rule('(* (look "a.b") 2)'), looks, record))

    def test_the_record_changed_at_any_depth(self):
        for paper in self.papers():
            for way in spots(paper[2]):
                spot = at(paper[2], way)
                for other in (spot + 1 if isinstance(spot, int) else 1, "x", None, (), (spot,), KIND):
                    if other != spot:
                        self.wrong(paper[:2] + (changed(paper[2], way, lambda _: other),))

    def test_a_part_more_or_left_out(self):
        for paper in self.papers():
            for way in spots(paper[2]):
                if isinstance(at(paper[2], way), tuple):
                    length = len(at(paper[2], way))
                    for place in range(length):
                        self.wrong(paper[:2] + (changed(paper[2], way, lambda t: t[:place] + t[place + 1:]),))
                        self.wrong(paper[:2] + (changed(paper[2], way, lambda t: t + t[place:place + 1]),))
                    self.wrong(paper[:2] + (changed(paper[2], way, lambda t: t + ((("made", 1), ()),)),))
                    self.wrong(paper[:2] + (changed(paper[2], way, lambda t: t + (None,)),))

    def test_a_truth_for_a_number(self):
        seen = 0
        for paper in self.papers():
            for way in spots(paper):
                if at(paper, way) in (0, 1):
                    self.wrong(changed(paper, way, bool))
                    seen += 1
        self.assertGreater(seen, 40)

    def test_truths_all_through(self):
        self.wrong((("lit", True), (), (("made", True), ())))
        self.wrong((("lit", (1, False)), (), (("made", (1, False)), ())))
        look = read_rule('(look "a.b")')
        self.wrong((look, (("a.b", ("made", True)),), record_of_look(("made", True))))
        self.wrong((look, (("a.b", ("made", 1)),), record_of_look(("made", True))))
        self.wrong((look, (("a.b", ("made", True)),), record_of_look(("made", 1))))
        self.wrong((read_rule("(less 1 2)"), (), (("made", True), ((("made", 1), ()), (("made", 2), ())))))
        self.wrong((("cry", ("lit", 0)), (), (("wrong", "cried", False), ((("made", 0), ()),))))

    def test_a_list_for_a_tuple(self):
        for paper in self.papers():
            for way in spots(paper):
                if isinstance(at(paper, way), tuple):
                    self.wrong(changed(paper, way, list))

    def test_other_kinds_anywhere(self):
        for paper in self.papers():
            for way in spots(paper):
                for other in (None, True, False, [], {}, {"made": 1}, 10 ** 199):
                    if way[:1] != (0,) or other in (None, [], {}):
                        self.wrong(changed(paper, way, lambda _: other))

    def test_a_branch_that_is_not_gone_through(self):
        self.right(plain_paper(("if", ONE, TWO, ("cry", TWO)), []))
        for branch in [("var", "x"), ("let", "x", ("var", "x"), ONE), ("lit", True), ("lit", 10 ** 60), ("lit", [1]),
                       ("odd", ONE), ("over", "x", "x", FEW, ONE, ONE), ("+", ONE), (), None, 5, "lit", ["lit", 1]]:
            self.wrong((("if", ONE, TWO, branch), (), (("made", 2), ((("made", 1), ()), (("made", 2), ())))))
            self.wrong((("else", ONE, branch), (), (("made", 1), ((("made", 1), ()),))))

    def test_too_many_expressions(self):
        for last, told in ((("count", ("lit", "")), True), (("count", ("figures", ONE)), False)):
            rule = of_sixty(("list", last))
            self.assertIs(is_right(plain_paper(rule, [])), told)

    def test_too_deep(self):
        for levels, told in ((12, True), (13, False)):
            rule = ("else", counts(levels - 1, ("lit", "")), ONE)
            self.assertIs(is_right(plain_paper(rule, [])), told)
            rule = ("if", ("lit", 0), counts(levels - 1, ("lit", "")), TWO)
            self.assertIs(is_right(plain_paper(rule, [])), told)

    def test_too_many_repeated_within_one_another(self):
        two = ("each", "x", FEW, ("over", "y", "z", FEW, ONE, ONE))
        self.right(plain_paper(two, []))
        self.wrong(plain_paper(("each", "w", ("lit", (1,)), two), []))
        self.wrong(plain_paper(("each", "w", ("lit", ()), two), []))

    def test_names_that_are_no_texts_of_worths(self):
        rule = read_rule('(look "a.b")')
        found = ("made", 1)
        for name in ["a" * 401, "a\nb", 'a"b', 5, None, True, ("a.b",), ["a.b"], {}, ("a", ".b")]:
            self.wrong((rule, ((name, found),), record_of_look(found)))
            self.wrong((rule, ((name, found),), record_of_look(found, name)))
            self.wrong((("look", ("lit", name)), ((name, found),), record_of_look(found, name)))
        long = "a" * 400
        self.right((("look", ("lit", long)), ((long, found),), record_of_look(found, long)))
        self.right((("look", ("lit", "~ A")), (("~ A", found),), record_of_look(found, "~ A")))

    def test_founds_that_are_no_outcomes(self):
        rule = read_rule('(look "a.b")')
        for found in [("made", 10 ** 60), ("made", "a" * 401), ("made", nested(13, 0)), ("made", True), ("made", None),
                      ("made", [1]), ("made", (1, [2])), ("made",), ("made", 1, 2), ("wrong", "kind", "x"), ("wrong", "odd", ""),
                      ("wrong", "none", 5), ("wrong", "shut", (1,)), ("wrong", "cried", None), ("wrong", "cried"),
                      ("wrong", "kind"), ("other", 1), (), "made", None, 5, ["made", 1], {"made": 1}, ("wrong", ["kind"], "")]:
            self.wrong((rule, (("a.b", found),), record_of_look(found)))
            self.wrong((("else", rule, ONE), (("a.b", found),), (("made", 1), (record_of_look(found), (("made", 1), ())))))
            self.wrong((("else", rule, ONE), (("a.b", found),), (found, (record_of_look(found),))))
        for found in [("made", 10 ** 60 - 1), ("made", "a" * 400), ("made", nested(12, 0)), ("wrong", "none", ""),
                      ("wrong", "shut", "no name"), ("wrong", "cried", (1,)), KIND, GREAT, NOUGHT, PLACE]:
            self.right((rule, (("a.b", found),), record_of_look(found)))

    def test_looks_of_another_form(self):
        rule = read_rule('(look "a.b")')
        found = ("made", 1)
        record = record_of_look(found)
        self.right((rule, (("a.b", found),), record))
        for looks in [("a.b", found), (("a.b",),), (("a.b", found, found),), ((),), (None,), (5,), None, 5, "a.b", [], {},
                      [("a.b", found)], (["a.b", found],), {"a.b": found}, ("ab",), ((found, "a.b"),)]:
            self.wrong((rule, looks, record))
            self.wrong((ONE, looks, (("made", 1), ())))

    def test_other_things_altogether(self):
        paper = paper_of(ONE, [])
        deep = ()
        for _ in range(59):
            deep = (deep,)
        for thing in [None, True, False, 0, 1, -5, 10 ** 199, "", "paper", "abc", (), (None,), (1, 2), (1, 2, 3), [], {}, [1, 2, 3],
                      {0: 1, 1: 2, 2: 3}, paper[:2], paper[:1], paper + (None,), paper + paper, (paper,), list(paper), (ONE, ()),
                      ((), (), ()), ("", "", ""), ([], [], []), ({}, {}, {}), (ONE, (), ()), (ONE, (), None), (ONE, (), (("made", 1),)),
                      (ONE, (), ()), ((), (), paper[2]), deep, (deep, deep, deep), (0,) * 40000, "a" * 2000]:
            self.wrong(thing)
        self.wrong((ONE, (), deep))
        self.wrong((ONE, deep, paper[2]))
        self.wrong((("lit", deep), (), (("made", deep), ())))
        self.wrong((ONE, (), (0,) * 39000))
        self.wrong((ONE, (("a", ("made", 1)),) * 5000, paper[2]))

    def test_by_chance_changed(self):
        seen = 0
        for number, paper in enumerate(chance_papers(500)):
            chance = random.Random(number)
            ways = list(spots(paper))
            for way in chance.sample(ways, min(len(ways), 12)):
                thing = changed(paper, way, lambda _: chance_worth(chance, 2))
                if thing == paper:
                    continue
                known = False
                if isinstance(thing, tuple) and len(thing) == 3 and is_rule(thing[0]) and thing[1:] == paper[1:]:
                    known = plain_paper(thing[0], [found for name, found in thing[1]]) == thing
                self.assertIs(is_right(thing), known, thing)
                seen += known
        self.assertGreater(seen, 20)

    def test_the_same_again(self):
        things = self.papers() + [paper[:2] + (None,) for paper in self.papers()]
        first = [is_right(thing) for thing in things]
        self.assertEqual([is_right(thing) for thing in reversed(things)], first[::-1])
        self.assertEqual([is_right(thing) for thing in things], first)

    def test_what_is_asked_stays(self):
        thing = [ONE, [["a", ["made", 1]]], {"a": [1]}]
        kept = repr(thing)
        self.wrong(thing)
        self.assertEqual(repr(thing), kept)


if __name__ == "__main__":
    unittest.main()
