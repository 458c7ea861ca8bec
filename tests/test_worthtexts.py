import random
import unittest

from leastforge.errors import NoText
from leastforge.worths import is_worth
from leastforge.worthtexts import read_worth, show_worth
from tests.samples import SIGNS, chance_worth, nested

GREATEST = 10 ** 60 - 1

WRITTEN = [
    (0, "0"), (7, "7"), (-7, "-7"), (10, "10"), (100, "100"), (-1200, "-1200"),
    (GREATEST, "9" * 60), (-GREATEST, "-" + "9" * 60), (10 ** 59, "1" + "0" * 59),
    ("", '""'), ("a", '"a"'), (" ", '" "'), ("a  b", '"a  b"'), ("7", '"7"'), ("(1 2)", '"(1 2)"'),
    ("(", '"("'), (")", '")"'), ("\\n", '"\\n"'), ("it's", '"it\'s"'), ("a" * 400, '"' + "a" * 400 + '"'),
    ((), "()"), ((0,), "(0)"), ((1, 2), "(1 2)"), ((-1, -2), "(-1 -2)"), (("a", "b"), '("a" "b")'),
    (((),), "(())"), (((), ()), "(() ())"), ((1, "a", (2, "b", ()), -3), '(1 "a" (2 "b" ()) -3)'),
    (((1,), (2,), 3), "((1) (2) 3)"), (nested(12, 0), "(" * 12 + "0" + ")" * 12),
    (nested(11, ()), "(" * 12 + ")" * 12), ((1,) * 60, "(" + " ".join(["1"] * 60) + ")"),
]

READ = [
    (" 7", 7), ("7 ", 7), ("\n7\n", 7), (" \n -7 \n\n ", -7), (' "a" ', "a"), ('\n"a b"\n', "a b"),
    ("( )", ()), ("(\n)", ()), (" ( \n ) ", ()), ("( 1 )", (1,)), ("(1  2)", (1, 2)), ("(1\n2)", (1, 2)),
    ("(\n 1 \n\n 2 \n)", (1, 2)), ("(1 )", (1,)), ("( 1)", (1,)), ("( ( 1 ) ( 2 ) )", ((1,), (2,))),
    ("((1)(2))", ((1,), (2,))), ("(()())", ((), ())), ("(1(2)3)", (1, (2,), 3)), ("(1())", (1, ())),
    ("(()1)", ((), 1)), ("((1)-2)", ((1,), -2)), ('("a""b")', ("a", "b")), ('("""""")', ("", "", "")),
    ('("a"("b")"c")', ("a", ("b",), "c")), ('(("a")"b")', (("a",), "b")), ('(1"a")', (1, "a")),
    ('("a"1)', ("a", 1)), ('(1"a"2)', (1, "a", 2)), ('("a"-1"b"-2)', ("a", -1, "b", -2)),
    ('(1\n"a"\n(2\n3)\n)', (1, "a", (2, 3))), ("(" * 12 + " 5 " + ")" * 12, nested(12, 5)),
    ("( ( " + " ( " * 10 + " ) " * 10 + " )\n)", nested(11, ())),
    (" " * 3000 + "5" + "\n" * 2900, 5),
]

REFUSED = [
    "", " ", "\n", "   \n \n", "-0", "-00", "00", "007", "01", "-01", "-007", "+1", "+0", "-", "+", "--1", "- 1",
    "-\n1", "1-", "1-2", "1+2", "1.0", "1.", ".5", "1_000", "1e5", "0x1", "1,000", "1 000", "12a", "a12",
    "a", "abc", "abc def", "True", "False", "None", "made", "lit", "x", "'a'", "[1]", "[]", "{}", "1;", "#1", "_",
    "1" * 61, "-" + "1" * 61, "1" + "0" * 60, "-1" + "0" * 60, "0" * 61, "9" * 200, "9" * 5000, "-" + "9" * 5000,
    "(", ")", "((", "))", ")(", "(()", "())", "(1", "1)", "((1)", "(1))", "(1 2", "1 2)", "(1 (2)", "(1) 2)",
    '"', '"""', '"a', 'a"', '"a"b"', '("a)', '(a")', '("a" "b)', '"a"b', 'a"b"', '"a" b', '"(" (', '(")"',
    "1 1", "1 2", "1 a", "1 ()", "() 1", "() ()", "()()", "(1)(2)", '1 "a"', '1"a"', '"a"1', '"a" "b"', '"a""b"',
    '()"a"', '"a"()', "(1)2", "1(2)", "5 x", "5 -0", "5 (", "5 )",
    "\t", "\t1", "1\t", " \t1", "1 \t", "(1\t2)", "(1 \t 2)", "(\t)", "(\t1)", "(1\t)", '"a\tb"', '"\t"', '\t"a"',
    '"a"\t', '("a"\t"b")', '(\t"a")', "()\t", "\t()", "(()\t())", "1\t2",
    '"a\nb"', '"\n"', '"a\n"', '("a" "b\n")',
    '"' + "a" * 401 + '"', '("' + "a" * 401 + '")', '"' + "a" * 5000 + '"',
    "(" + " ".join(["1"] * 61) + ")", "(" + "()" * 61 + ")", "((" + " ".join(["1"] * 61) + "))",
    "(" * 13 + ")" * 13, "(" * 13 + "0" + ")" * 13, "(" * 40 + ")" * 40, "(1 " + "(" * 12 + ")" * 12 + ")",
    '("' + "a" * 399 + '" "' + "b" * 399 + '" "' + "c" * 199 + '")',
    "(" + ("(" + " ".join(["0"] * 60) + ")") * 16 + " 0" * 24 + ")",
    "(" + ("(" + " ".join(["0"] * 60) + ")") * 30 + ")",
    "(-0)", "(007)", "(+1)", "(1 -0)", "(1 007 2)", "((+1))", "(" + "1" * 61 + ")", "(1-2)", "(1 a)", "(a)", "(-)",
    "(1--2)", "(1,2)", "(1.2)", "(1 . 2)", "(- 1)", "(1 true)", '(a"b")', '("a"b)', "(1) (", "((1) x)", "(lit)",
]


class Show(unittest.TestCase):
    def test_just_as_told(self):
        for worth, text in WRITTEN:
            self.assertEqual(show_worth(worth), text)

    def test_the_same_again(self):
        first = [show_worth(worth) for worth, text in WRITTEN]
        self.assertEqual([show_worth(worth) for worth, text in reversed(WRITTEN)], first[::-1])


class Read(unittest.TestCase):
    def check(self, text, worth):
        found = read_worth(text)
        self.assertEqual(found, worth, repr(text)[:200])
        self.assertIs(type(found), type(worth), repr(text)[:200])
        self.assertIs(is_worth(found), True, repr(text)[:200])

    def refuse(self, text):
        with self.assertRaises(NoText, msg=repr(text)[:200]) as caught:
            read_worth(text)
        self.assertIs(type(caught.exception), NoText)

    def test_what_is_written_is_read_back(self):
        for worth, text in WRITTEN:
            self.check(text, worth)
            self.check(show_worth(worth), worth)

    def test_each_sign(self):
        for sign in SIGNS:
            for worth in (sign, "a" + sign + "b", (sign, (1, sign * 2))):
                self.check(show_worth(worth), worth)

    def test_by_chance(self):
        for seed in range(400):
            worth = chance_worth(random.Random(seed))
            self.check(show_worth(worth), worth)

    def test_blanks_and_line_feeds(self):
        for text, worth in READ:
            self.check(text, worth)

    def test_the_bounds_are_read(self):
        text = '("' + "a" * 399 + '" "' + "b" * 399 + '" "' + "c" * 198 + '")'
        self.check(text, ("a" * 399, "b" * 399, "c" * 198))
        rows = "(" + ("(" + " ".join(["0"] * 60) + ")") * 16 + " 0" * 23 + ")"
        self.check(rows, ((0,) * 60,) * 16 + (0,) * 23)
        self.check("(" + "()" * 60 + ")", ((),) * 60)

    def test_great_worths_are_read_back(self):
        greats = [((GREATEST,) * 60,) * 16, ((-GREATEST,) * 49,) * 19, (nested(10, ()),) + (-1,) * 59]
        for worth in greats:
            self.assertIs(is_worth(worth), True)
            self.check(show_worth(worth), worth)

    def test_what_writes_none_is_refused(self):
        for text in REFUSED:
            self.refuse(text)
            self.check('(1 "a")', (1, "a"))

    def test_refused_with_blanks_about_it(self):
        for text in REFUSED:
            if len(text) < 5000:
                self.refuse(" " + text + "\n")

    def test_refused_within_a_list(self):
        for text in ["-0", "007", "+1", "1" * 61, "a", '"', "(", ")", "\t", '"\t"', '"\n"', "- 1", "1-1", "1.5"]:
            for text_about in ["(" + text + ")", "(1 " + text + ")", "(" + text + " 1)", "((2) (" + text + ") 3)"]:
                self.refuse(text_about)

    def test_no_other_sign_stands_outside_of_texts(self):
        for sign in SIGNS:
            if sign in " ()0123456789":
                continue
            for text in [sign, "1" + sign, "1 " + sign, sign + " 1", sign + "()", "()" + sign, '"a"' + sign, sign + '"a"',
                         "(" + sign + ")", "(1" + sign + ")", "(1" + sign + "2)", "(1 " + sign + " 2)", "1" + sign + "2"]:
                self.refuse(text)
            if sign != "-":
                self.refuse(sign + "1")
                self.refuse("(" + sign + "1)")

    def test_the_same_again(self):
        for _ in range(2):
            for text, worth in READ:
                self.check(text, worth)
                self.refuse("(" + text)
                self.check(text, worth)


if __name__ == "__main__":
    unittest.main()
