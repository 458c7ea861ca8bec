import copy
import random
import unittest

from leastforge.deeds import is_outcome
from leastforge.forms import is_rule
from leastforge.formtexts import read_rule
from leastforge.runs import gone
from tests.reference import GREAT, KIND, NOUGHT, PLACE, plainly_gone, within_bounds
from tests.samples import WRITTEN, chance_expression, chance_outcome, nested

GREATEST = 10 ** 60 - 1


def done(worth, *parts):
    """A record with a worth."""
    return (("made", worth), parts)


def cried(worth):
    """A record of a cry of a lit."""
    return (("wrong", "cried", worth), (done(worth),))


class Told(unittest.TestCase):
    def check(self, text, founds, expected):
        rule = read_rule(text)
        handed = list(founds)
        found = gone(rule, handed)
        self.assertEqual(found, expected, text)
        self.assertEqual(repr(found), repr(expected), text)
        self.assertEqual(handed, list(founds))
        self.assertEqual(plainly_gone(rule, founds), expected, text)

    def ends(self, text, record, names=(), founds=()):
        self.check(text, founds, ("ended", list(names), record))

    def comes_to(self, text, outcome, founds=()):
        found = gone(read_rule(text), list(founds))
        self.assertEqual(found[0], "ended", text)
        self.assertEqual(found[2][0], outcome, text)

    def looks(self, text, names, founds=()):
        self.check(text, founds, ("look", list(names)))


class WithoutLooks(Told):
    def test_lit(self):
        for text, worth in [("0", 0), ("-5", -5), ('""', ""), ('"a"', "a"), ("(lit ())", ()), ('(lit (1 ("a")))', (1, ("a",)))]:
            self.ends(text, done(worth))

    def test_let_and_var(self):
        self.ends("(let x 1 x)", done(1, done(1), done(1)))
        self.ends("(let x 1 2)", done(2, done(1), done(2)))
        self.ends('(let x "a" (list x x))', done(("a", "a"), done("a"), done(("a", "a"), done("a"), done("a"))))
        self.ends("(let x 1 (let y 2 (list x y)))",
                  done((1, 2), done(1), done((1, 2), done(2), done((1, 2), done(1), done(2)))))

    def test_let_of_what_is_wrong(self):
        self.ends("(let x (cry 1) 2)", (("wrong", "cried", 1), (cried(1),)))
        self.ends("(let x 1 (cry x))", (("wrong", "cried", 1), (done(1), cried(1))))

    def test_let_that_binds_again(self):
        self.ends("(let x 1 (+ (let x 5 x) x))",
                  done(6, done(1), done(6, done(5, done(5), done(5)), done(1))))
        self.comes_to("(let x 1 (list x (let x (+ x 1) (list x (let x (+ x 1) x) x)) x))", ("made", (1, (2, 3, 2), 1)))
        self.comes_to("(let x 1 (let y (let x 2 x) (list x y)))", ("made", (1, 2)))
        self.comes_to("(let x 1 (list (else (let x 2 (cry x)) x) x))", ("made", (1, 1)))

    def test_if(self):
        self.ends("(if 1 2 3)", done(2, done(1), done(2)))
        self.ends("(if 0 2 3)", done(3, done(0), done(3)))
        self.ends("(if -1 2 3)", done(2, done(-1), done(2)))
        self.ends("(if 7 2 3)", done(2, done(7), done(2)))
        self.ends("(if 0 (cry 1) 3)", done(3, done(0), done(3)))
        self.ends("(if 1 3 (cry 1))", done(3, done(1), done(3)))
        self.ends("(if 1 (cry 2) 3)", (("wrong", "cried", 2), (done(1), cried(2))))
        self.ends("(if 0 1 (cry 2))", (("wrong", "cried", 2), (done(0), cried(2))))

    def test_if_of_another_kind(self):
        for text, worth in [('""', ""), ('"a"', "a"), ('"0"', "0"), ("(lit ())", ()), ("(lit (0))", (0,))]:
            self.ends("(if " + text + " 1 2)", (KIND, (done(worth),)))
        self.ends("(if (cry 0) 1 2)", (("wrong", "cried", 0), (cried(0),)))

    def test_words_that_reckon(self):
        for text, one, other, worth in [
            ("(+ 2 3)", 2, 3, 5), ("(- 2 3)", 2, 3, -1), ("(* 2 3)", 2, 3, 6), ("(/ 7 2)", 7, 2, 3),
            ("(/ -7 2)", -7, 2, -4), ("(/ 7 -2)", 7, -2, -4), ("(less 2 3)", 2, 3, 1), ("(less 3 3)", 3, 3, 0),
            ("(same 3 3)", 3, 3, 1), ('(same 3 "3")', 3, "3", 0), ('(join "a" "b")', "a", "b", "ab"),
            ("(join (lit (1)) (lit (2)))", (1,), (2,), (1, 2)), ("(item (lit (4 5)) 1)", (4, 5), 1, 5),
            ("(list 3 4)", 3, 4, (3, 4)),
        ]:
            self.ends(text, done(worth, done(one), done(other)))
        self.ends('(count "abc")', done(3, done("abc")))
        self.ends("(count (lit (1 2)))", done(2, done((1, 2))))
        self.ends("(figures -12)", done("-12", done(-12)))
        self.ends("(list)", done(()))
        self.ends("(list 1 2 3 4 5 6 7 8)", done((1, 2, 3, 4, 5, 6, 7, 8), *[done(n) for n in range(1, 9)]))

    def test_wrong_by_themselves(self):
        for text, one, other, outcome in [
            ('(+ 1 "a")', 1, "a", KIND), ('(- "a" 1)', "a", 1, KIND), ('(* "a" 2)', "a", 2, KIND),
            ("(/ 1 0)", 1, 0, NOUGHT), ('(/ "a" 0)', "a", 0, KIND), ('(less "a" "b")', "a", "b", KIND),
            ("(join 1 2)", 1, 2, KIND), ('(join "a" (lit ()))', "a", (), KIND), ("(item (lit (1)) 1)", (1,), 1, PLACE),
            ("(item (lit (1)) -1)", (1,), -1, PLACE), ('(item "a" 0)', "a", 0, KIND),
        ]:
            self.ends(text, (outcome, (done(one), done(other))))
        self.ends("(count 1)", (KIND, (done(1),)))
        self.ends('(figures "1")', (KIND, (done("1"),)))

    def test_the_first_wrong_part_ends_it(self):
        for word in ("+", "-", "*", "/", "same", "less", "join", "item"):
            self.ends(f"({word} (cry 1) (cry 2))", (("wrong", "cried", 1), (cried(1),)))
            self.ends(f"({word} 5 (cry 2))", (("wrong", "cried", 2), (done(5), cried(2))))
            self.ends(f'({word} "a" (cry 2))', (("wrong", "cried", 2), (done("a"), cried(2))))
        self.ends("(/ 1 (/ 1 0))", (NOUGHT, (done(1), (NOUGHT, (done(1), done(0))))))
        for word in ("count", "figures", "look", "cry"):
            self.ends(f"({word} (cry 2))", (("wrong", "cried", 2), (cried(2),)))
        self.ends("(list 1 (cry 2) (cry 3) 4)", (("wrong", "cried", 2), (done(1), cried(2))))
        self.ends("(list (cry 2) 1)", (("wrong", "cried", 2), (cried(2),)))
        self.ends("(list 1 2 (cry 3))", (("wrong", "cried", 3), (done(1), done(2), cried(3))))

    def test_a_wrong_goes_up_through_all(self):
        inner = (NOUGHT, (done(1), done(0)))
        self.ends("(count (list 7 (let x (/ 1 0) x) 8))", (NOUGHT, ((NOUGHT, (done(7), (NOUGHT, (inner,)))),)))

    def test_else(self):
        self.ends("(else 1 2)", done(1, done(1)))
        self.ends("(else 1 (cry 2))", done(1, done(1)))
        self.ends("(else (cry 1) 2)", done(2, cried(1), done(2)))
        self.ends("(else (cry 1) (cry 2))", (("wrong", "cried", 2), (cried(1), cried(2))))
        for text in ["(/ 1 0)", "(+ 1 (list))", "(item (list) 0)", "(* {} {})".format(GREATEST, GREATEST), "(cry 1)"]:
            self.comes_to("(else " + text + " 5)", ("made", 5))
        self.ends("(else (else (cry 1) (cry 2)) 3)",
                  done(3, (("wrong", "cried", 2), (cried(1), cried(2))), done(3)))
        self.ends("(+ (else (cry 1) 2) 3)", done(5, done(2, cried(1), done(2)), done(3)))

    def test_cry(self):
        for text, worth in [("0", 0), ('""', ""), ("(lit (1 (2)))", (1, (2,)))]:
            self.ends("(cry " + text + ")", cried(worth))
        self.ends("(cry (cry 1))", (("wrong", "cried", 1), (cried(1),)))
        self.ends("(cry (/ 1 0))", (NOUGHT, ((NOUGHT, (done(1), done(0))),)))


class EachAndOver(Told):
    def test_each(self):
        self.ends("(each x (lit (1 2 3)) x)", done((1, 2, 3), done((1, 2, 3)), done(1), done(2), done(3)))
        self.ends("(each x (lit (1 2)) (+ x 5))",
                  done((6, 7), done((1, 2)), done(6, done(1), done(5)), done(7, done(2), done(5))))
        self.ends("(each x (lit ()) (cry x))", done((), done(())))
        self.ends('(each x (lit (("a") ())) (count x))',
                  done((1, 0), done((("a",), ())), done(1, done(("a",))), done(0, done(()))))

    def test_each_of_many(self):
        ten = tuple(range(10))
        text = " ".join(str(n) for n in ten)
        self.ends(f"(each x (lit ({text})) x)", done(ten, done(ten), *[done(n) for n in ten]))
        eleven = ten + (10,)
        self.ends(f"(each x (lit ({text} 10)) x)", (GREAT, (done(eleven),)))
        self.ends(f"(each x (lit ({text} 10)) (cry x))", (GREAT, (done(eleven),)))
        self.ends("(each x (lit (" + "0 " * 60 + ")) x)", (GREAT, (done((0,) * 60),)))

    def test_each_of_no_list(self):
        for text, worth in [("1", 1), ("0", 0), ('""', ""), ('"abc"', "abc"), ('"abcdefghijklmnop"', "abcdefghijklmnop")]:
            self.ends("(each x " + text + " (cry x))", (KIND, (done(worth),)))
        self.ends("(each x (cry 1) x)", (("wrong", "cried", 1), (cried(1),)))

    def test_each_that_goes_wrong(self):
        self.ends("(each x (lit (2 0 5)) (/ 6 x))",
                  (NOUGHT, (done((2, 0, 5)), done(3, done(6), done(2)), (NOUGHT, (done(6), done(0))))))
        self.ends("(each x (lit (7 8)) (cry x))", (("wrong", "cried", 7), (done((7, 8)), cried(7))))
        self.comes_to("(each x (lit (2 0 5)) (else (/ 6 x) -1))", ("made", (3, -1, 1)))

    def test_each_that_is_great(self):
        text = "a" * 400
        found = gone(read_rule(f'(each x (lit (1 2 3)) "{text}")'), [])
        self.assertEqual(found, ("ended", [], (GREAT, (done((1, 2, 3)), done(text), done(text), done(text)))))
        deep = nested(12, 0)
        self.assertEqual(gone(("each", "x", ("lit", (1,)), ("lit", deep)), []),
                         ("ended", [], (GREAT, (done((1,)), done(deep)))))
        self.assertEqual(gone(("each", "x", ("lit", (1,)), ("lit", deep[0])), [])[2][0], ("made", (deep[0],)))

    def test_each_that_binds_again(self):
        self.comes_to("(let x 9 (list (each x (lit (1 2)) x) x))", ("made", ((1, 2), 9)))
        self.comes_to("(let x (lit (1 2)) (list (each x x (+ x 1)) x))", ("made", ((2, 3), (1, 2))))
        self.comes_to("(each x (lit ((1 2) (3))) (list (each x x (* x 2)) (count x)))", ("made", (((2, 4), 2), ((6,), 1))))
        self.comes_to("(let y 10 (each x (lit (1 2)) (+ x y)))", ("made", (11, 12)))
        self.comes_to("(each x (lit (1 2)) (each y (lit (10 20)) (+ x y)))", ("made", ((11, 21), (12, 22))))

    def test_over(self):
        self.ends("(over x y (lit (1 2)) 0 (+ (* y 10) x))",
                  done(12, done((1, 2)), done(0),
                       done(1, done(0, done(0), done(10)), done(1)),
                       done(12, done(10, done(1), done(10)), done(2))))
        self.ends("(over x y (lit (5)) 1 x)", done(5, done((5,)), done(1), done(5)))
        self.ends("(over x y (lit (5)) 1 y)", done(1, done((5,)), done(1), done(1)))
        self.comes_to("(over x y (lit (1 2 3)) (lit ()) (join (list x) y))", ("made", (3, 2, 1)))

    def test_over_of_none(self):
        self.ends("(over x y (lit ()) 7 (cry x))", done(7, done(()), done(7)))
        self.ends('(over x y (lit ()) "a" y)', done("a", done(()), done("a")))

    def test_over_of_many(self):
        ten = tuple(range(10))
        text = " ".join(str(n) for n in ten)
        self.comes_to(f"(over x y (lit ({text})) 0 (+ x y))", ("made", 45))
        self.ends(f"(over x y (lit ({text} 10)) 7 (cry 1))", (GREAT, (done(ten + (10,)), done(7))))
        self.ends(f"(over x y (lit ({text} 10)) (cry 7) 1)",
                  (("wrong", "cried", 7), (done(ten + (10,)), cried(7))))

    def test_over_of_no_list(self):
        for text, worth in [("1", 1), ('"abc"', "abc"), ('""', "")]:
            self.ends("(over x y " + text + " 7 (cry 1))", (KIND, (done(worth), done(7))))
            self.ends("(over x y " + text + " (cry 7) 1)", (("wrong", "cried", 7), (done(worth), cried(7))))
        self.ends("(over x y (cry 1) (cry 2) 3)", (("wrong", "cried", 1), (cried(1),)))
        self.ends("(over x y (lit (1)) (cry 2) 3)", (("wrong", "cried", 2), (done((1,)), cried(2))))

    def test_over_that_goes_wrong(self):
        self.ends("(over x y (lit (2 0 5)) 6 (/ y x))",
                  (NOUGHT, (done((2, 0, 5)), done(6), done(3, done(6), done(2)), (NOUGHT, (done(3), done(0))))))
        self.comes_to(f"(over x y (lit (1 2 3)) {10 ** 25} (* y y))", GREAT)

    def test_over_that_binds_again(self):
        self.comes_to("(let x 8 (let y 9 (list (over x y (lit (1 2)) 0 (+ x y)) x y)))", ("made", (3, 8, 9)))
        self.comes_to("(let y (lit (1 2)) (over x y y y (join (list x) y)))", ("made", (2, 1, 1, 2)))
        self.comes_to("(over x y (lit (1 2)) 0 (+ (over x y (lit (10 20)) x (+ x y)) y))", ("made", 63))
        self.comes_to("(let x 5 (over y z (lit (1 2)) 0 (+ z (* x y))))", ("made", 15))


class Looks(Told):
    def test_too_few_founds(self):
        self.looks('(look "a.b")', ["a.b"])
        self.looks('(+ (look "a.b") (look "a.c"))', ["a.b"])
        self.looks('(+ (look "a.b") (look "a.c"))', ["a.b", "a.c"], [("made", 1)])
        self.looks('(list 1 (look "") (look "b"))', [""])

    def test_just_enough(self):
        self.ends('(look "a.b")', done(7, done("a.b")), ["a.b"], [("made", 7)])
        self.ends('(- (look "a.b") (look "a.c"))', done(3, done(5, done("a.b")), done(2, done("a.c"))),
                  ["a.b", "a.c"], [("made", 5), ("made", 2)])

    def test_more_than_looked_for(self):
        self.ends('(look "a.b")', done(7, done("a.b")), ["a.b"], [("made", 7), ("made", 8), KIND])
        self.ends("1", done(1), [], [("made", 7)])
        self.ends('(list (look "a") (look "a"))', done((1, 2), done(1, done("a")), done(2, done("a"))),
                  ["a", "a"], [("made", 1), ("made", 2), ("made", 3)])

    def test_the_same_name_twice(self):
        self.looks('(list (look "a.b") (look "a.b"))', ["a.b", "a.b"], [("made", 1)])
        self.ends('(list (look "a.b") (look "a.b"))', (PLACE, (done(1, done("a.b")), (PLACE, (done("a.b"),)))),
                  ["a.b", "a.b"], [("made", 1), PLACE])
        self.looks('(let x "a.b" (list (look x) (look x)))', ["a.b"])

    def test_each_outcome_that_is_found(self):
        for found in [("made", 0), ("made", ""), ("made", (1, ("a",))), KIND, GREAT, NOUGHT, PLACE, ("wrong", "none", "a.b"),
                      ("wrong", "shut", "a.b"), ("wrong", "shut", ""), ("wrong", "cried", (1, 2)), ("wrong", "cried", "")]:
            self.ends('(look "a.b")', (found, (done("a.b"),)), ["a.b"], [found])

    def test_what_is_looked_at_is_a_text(self):
        for text, worth in [("1", 1), ("0", 0), ("(lit ())", ()), ('(lit ("a.b"))', ("a.b",))]:
            self.ends("(look " + text + ")", (KIND, (done(worth),)), [], [("made", 1)])
        for text in ["", " ", "no name", "A.B", "a" * 400, "~"]:
            self.looks('(look "' + text + '")', [text])
        self.ends("(look (cry 1))", (("wrong", "cried", 1), (cried(1),)), [], [("made", 1)])

    def test_a_wrong_found_ends_it(self):
        wrong = ("wrong", "none", "a")
        self.ends('(+ (look "a") (look "b"))', (wrong, ((wrong, (done("a"),)),)), ["a"], [wrong, ("made", 1)])
        self.ends('(let x (look "a") (look "b"))', (wrong, ((wrong, (done("a"),)),)), ["a"], [wrong, ("made", 1)])
        self.ends('(if (look "a") (look "b") (look "c"))', (wrong, ((wrong, (done("a"),)),)), ["a"], [wrong])

    def test_within_else(self):
        text = '(else (look "a") (look "b"))'
        self.looks(text, ["a"])
        self.ends(text, done(1, done(1, done("a"))), ["a"], [("made", 1)])
        self.ends(text, done(1, done(1, done("a"))), ["a"], [("made", 1), ("made", 2)])
        self.looks(text, ["a", "b"], [NOUGHT])
        self.ends(text, done(2, (NOUGHT, (done("a"),)), done(2, done("b"))), ["a", "b"], [NOUGHT, ("made", 2)])
        self.ends(text, (KIND, ((NOUGHT, (done("a"),)), (KIND, (done("b"),)))), ["a", "b"], [NOUGHT, KIND])
        self.looks('(else (+ 1 (look "a")) 5)', ["a"])
        self.looks('(else (else (look "a") 5) 6)', ["a"])
        self.looks('(list (else (count (look "a")) 1) (look "b"))', ["a"])
        self.looks('(else (list (look "a") (look "b")) (look "c"))', ["a", "b"], [("made", 1)])
        self.looks('(else (list (look "a") (look "b")) (look "c"))', ["a", "c"], [KIND])

    def test_within_if(self):
        text = '(if (look "a") (look "b") (look "c"))'
        self.looks(text, ["a"])
        self.looks(text, ["a", "b"], [("made", 1)])
        self.looks(text, ["a", "b"], [("made", -1)])
        self.looks(text, ["a", "c"], [("made", 0)])
        self.ends(text, (KIND, (done("0", done("a")),)), ["a"], [("made", "0"), ("made", 1)])
        self.ends(text, done("z", done(0, done("a")), done("z", done("c"))), ["a", "c"], [("made", 0), ("made", "z")])

    def test_within_each(self):
        text = '(each x (lit ("a" "b" "c")) (look x))'
        self.looks(text, ["a"])
        self.looks(text, ["a", "b"], [("made", 1)])
        self.looks(text, ["a", "b", "c"], [("made", 1), ("made", 2)])
        self.ends(text, done((1, 2, 3), done(("a", "b", "c")), done(1, done("a")), done(2, done("b")), done(3, done("c"))),
                  ["a", "b", "c"], [("made", 1), ("made", 2), ("made", 3)])
        self.ends(text, (KIND, (done(("a", "b", "c")), done(1, done("a")), (KIND, (done("b"),)))),
                  ["a", "b"], [("made", 1), KIND, ("made", 3)])
        self.looks('(each x (look "a") (look x))', ["a", "b"], [("made", ("b", "c"))])
        self.ends('(each x (look "a") (look x))', (KIND, (done("b", done("a")),)), ["a"], [("made", "b")])
        self.ends('(each x (look "a") (look x))', (GREAT, (done(("b",) * 11, done("a")),)), ["a"], [("made", ("b",) * 11)])
        self.looks('(each x (lit (1)) (else (look "a") 1))', ["a"])

    def test_within_over(self):
        text = '(over x y (look "a") (look "b") (join y (look x)))'
        self.looks(text, ["a"])
        self.looks(text, ["a", "b"], [("made", ("c", "d"))])
        self.looks(text, ["a", "b"], [("made", 5)])
        self.looks(text, ["a", "b", "c"], [("made", ("c", "d")), ("made", "1")])
        self.looks(text, ["a", "b", "c", "d"], [("made", ("c", "d")), ("made", "1"), ("made", "2")])
        self.ends(text, done("123", done(("c", "d"), done("a")), done("1", done("b")),
                             done("12", done("1"), done("2", done("c"))), done("123", done("12"), done("3", done("d")))),
                  ["a", "b", "c", "d"], [("made", ("c", "d")), ("made", "1"), ("made", "2"), ("made", "3")])
        self.ends(text, (KIND, (done(5, done("a")), done(1, done("b")))), ["a", "b"], [("made", 5), ("made", 1)])

    def test_a_name_that_is_found(self):
        text = '(look (join (look "a") ".c"))'
        self.looks(text, ["a"])
        self.looks(text, ["a", "b.c"], [("made", "b")])
        self.ends(text, done(1, done("b.c", done("b", done("a")), done(".c"))), ["a", "b.c"], [("made", "b"), ("made", 1)])
        self.looks("(look (look (look \"a\")))", ["a", "b", "a"], [("made", "b"), ("made", "a")])
        self.ends('(look (look "a"))', (KIND, (done(5, done("a")),)), ["a"], [("made", 5), ("made", 6)])

    def test_within_let(self):
        self.looks('(let x (look "a") (list x (look x)))', ["a", "b"], [("made", "b")])
        self.looks('(let x (look "a") (list x (look x)))', ["a"])
        self.ends('(let x (look "a") (list x x))', done((1, 1), done(1, done("a")), done((1, 1), done(1), done(1))),
                  ["a"], [("made", 1)])

    def test_within_cry(self):
        self.looks('(cry (look "a"))', ["a"])
        self.ends('(cry (look "a"))', (("wrong", "cried", 4), (done(4, done("a")),)), ["a"], [("made", 4)])


class Great(Told):
    def test_numbers(self):
        self.ends(f"(+ {GREATEST} 1)", (GREAT, (done(GREATEST), done(1))))
        self.ends(f"(+ {GREATEST - 1} 1)", done(GREATEST, done(GREATEST - 1), done(1)))
        self.ends(f"(- -{GREATEST} 1)", (GREAT, (done(-GREATEST), done(1))))
        self.ends(f"(* {10 ** 30} {10 ** 30})", (GREAT, (done(10 ** 30), done(10 ** 30))))

    def test_texts(self):
        one = "a" * 400
        self.ends(f'(join "{one}" "b")', (GREAT, (done(one), done("b"))))
        self.ends(f'(join "{one}" "")', done(one, done(one), done("")))

    def test_lists(self):
        sixty = "(lit (" + "0 " * 60 + "))"
        self.ends(f"(join {sixty} (lit (1)))", (GREAT, (done((0,) * 60), done((1,)))))
        self.ends(f"(join {sixty} (lit ()))", done((0,) * 60, done((0,) * 60), done(())))

    def test_depth(self):
        for lists, outcome in ((11, ("made", nested(12, 0))), (12, GREAT)):
            text = "(list (lit " + "(" * lists + "0" + ")" * lists + "))"
            self.ends(text, (outcome, (done(nested(lists, 0)),)))

    def test_size(self):
        one = "a" * 399
        for many, outcome in ((198, ("made", (one, one, "c" * 198))), (199, GREAT)):
            self.ends(f'(list "{one}" "{one}" "{"c" * many}")', (outcome, (done(one), done(one), done("c" * many))))

    def test_it_is_taken_by_else(self):
        self.comes_to(f"(else (+ {GREATEST} 1) 0)", ("made", 0))


class Whole(Told):
    def test_each_form_at_least_once(self):
        for rule, text in WRITTEN:
            for founds in ([], [("made", 1)]):
                self.assertEqual(gone(rule, founds), plainly_gone(rule, founds))

    def test_by_chance(self):
        ended = looked = 0
        for seed in range(2500):
            chance = random.Random(seed)
            rule = chance_expression(chance, chance.choice([2, 3, 4, 5]), [])
            if not is_rule(rule):
                continue
            founds = [chance_outcome(chance) for _ in range(chance.choice([0, 1, 3, 8, 40]))]
            for count in range(min(len(founds), 5) + 1):
                handed = founds if count == 5 else founds[:count]
                expected = plainly_gone(rule, handed)
                if expected[0] == "ended" and not within_bounds(expected[2]):
                    continue
                found = gone(rule, handed)
                self.assertEqual(found, expected, rule)
                self.assertEqual(repr(found), repr(expected), rule)
                if found[0] == "look":
                    self.assertEqual(len(found[1]), len(handed) + 1)
                    looked += 1
                else:
                    self.assertIs(is_outcome(found[2][0]), True)
                    ended += 1
        self.assertGreater(ended, 1000)
        self.assertGreater(looked, 300)

    def test_kinds(self):
        found = gone(read_rule('(list (look "a") 1)'), [])
        self.assertIs(type(found), tuple)
        self.assertIs(type(found[1]), list)
        found = gone(read_rule('(list (look "a") (less 1 2) (same 1 1))'), [("made", 1)])
        self.assertIs(type(found), tuple)
        self.assertIs(type(found[1]), list)
        self.assertEqual(repr(found[2][0]), "('made', (1, 1, 1))")

    def test_the_lists_told_are_new_ones(self):
        rule = read_rule('(list (look "a") (look "b"))')
        for founds in ([], [("made", 1)], [("made", 1), ("made", 2)]):
            first = gone(rule, founds)
            kept = copy.deepcopy(first)
            first[1].append("spoilt")
            first[1][0] = "spoilt"
            self.assertEqual(gone(rule, founds), kept)
            self.assertIsNot(gone(rule, founds)[1], gone(rule, founds)[1])

    def test_the_founds_handed_in_stay(self):
        rule = read_rule('(list (look "a") (look "b"))')
        founds = [("made", 1), ("made", 2), ("made", 3)]
        found = gone(rule, founds)
        self.assertEqual(founds, [("made", 1), ("made", 2), ("made", 3)])
        kept = copy.deepcopy(found)
        founds[0] = KIND
        founds.pop()
        self.assertEqual(found, kept)

    def test_the_same_again(self):
        asked = []
        for seed in range(150):
            chance = random.Random(seed)
            rule = chance_expression(chance, 4, [])
            if is_rule(rule):
                asked.append((rule, [chance_outcome(chance) for _ in range(3)]))
        first = [gone(rule, founds) for rule, founds in asked]
        self.assertEqual([gone(rule, founds) for rule, founds in reversed(asked)], first[::-1])
        self.assertEqual([gone(rule, founds) for rule, founds in asked], first)


if __name__ == "__main__":
    unittest.main()
