import random
import unittest

from leastforge.errors import NoText
from leastforge.forms import is_rule
from leastforge.formtexts import read_rule, show_rule
from tests.samples import FEW, ONE, SIGNS, TWO, WRITTEN, chance_expression, counts, nested, of_sixty

WORDS = ["lit", "var", "let", "if", "same", "less", "join", "list", "item", "count", "figures", "each", "over",
         "look", "else", "cry"]

READ = [
    (" 1 ", ONE), ("\n1", ONE), ("1\n \n", ONE), (' "a" ', ("lit", "a")), ("( + 1 2 )", ("+", ONE, TWO)),
    ("(\n+\n1\n2\n)", ("+", ONE, TWO)), ("  (+   1   2)  ", ("+", ONE, TWO)), ("( list )", ("list",)),
    ("(list\n)", ("list",)), ("( lit ( 1 2 ) )", ("lit", (1, 2))), ("(lit())", ("lit", ())),
    ("(lit(1(2)3))", ("lit", (1, (2,), 3))), ('(lit("a""b"1))', ("lit", ("a", "b", 1))), ("(lit\n( ))", ("lit", ())),
    ('(join"a""b")', ("join", ("lit", "a"), ("lit", "b"))), ('(join"a"(list))', ("join", ("lit", "a"), ("list",))),
    ("(list(list)(list))", ("list", ("list",), ("list",))), ("(list 1(list)2)", ("list", ONE, ("list",), TWO)),
    ('(let x"a"x)', ("let", "x", ("lit", "a"), ("var", "x"))), ('(list 1"a"2)', ("list", ONE, ("lit", "a"), TWO)),
    ("(let x(list)x)", ("let", "x", ("list",), ("var", "x"))), ("(+(- 1 2)-3)", ("+", ("-", ONE, TWO), ("lit", -3))),
    ("(- 1 -2)", ("-", ONE, ("lit", -2))), ("(let\nx\n1\nx)", ("let", "x", ONE, ("var", "x"))),
    ("( over  x  y  (lit (1 2 3))  1  y )", ("over", "x", "y", FEW, ONE, ("var", "y"))),
    ("(over x y(lit(1 2 3))1 y)", ("over", "x", "y", FEW, ONE, ("var", "y"))),
    ("(each x(lit(1 2 3))(cry x))", ("each", "x", FEW, ("cry", ("var", "x")))),
    ('(look"a.b")', ("look", ("lit", "a.b"))), ('(look "a  b")', ("look", ("lit", "a  b"))),
    ('(list"(" ")")', ("list", ("lit", "("), ("lit", ")"))), ('(list "let x 1")', ("list", ("lit", "let x 1"))),
]

REFUSED = [
    # nothing, words and variables that are not bound
    "", " ", "\n", " \n ", "x", "lit", "list", "let", "+", "-", "*", "/", "X", "x1", "abcdefghi", "_", "True", "None",
    # numbers
    "-0", "007", "+1", "1" * 61, "-" + "1" * 61, "9" * 5000, "1.5", "1-2", "--1", "- 1", "1_0", "(+ 1 -0)", "(+ 01 2)",
    "(list +1)", "(list 1-1)",
    # brackets and quotes
    "(", ")", "()", "( )", "(()", "(+ 1 2", "+ 1 2)", "(+ 1 2))", "((+ 1 2)", "((+ 1 2))", "(1)", "(1 2)", "((list))",
    '("a")', '("list")', '("+" 1 2)', '"a', 'a"', '"a"b"', '(look "a)', '(look a")', '(look "a"")', '"""',
    # something ahead or behind
    "1 2", "1 1", "(list) 1", "1 (list)", "(list)(list)", "(list) (list)", '"a" "b"', '"a""b"', "1 x", '1"a"', '"a"1',
    "(+ 1 2) x", "x (+ 1 2)", "+ (+ 1 2)",
    # other words, and words at wrong places
    "(add 1 2)", "(Lit (1))", "(LIST)", "(x)", "(lists)", "(var x)", "(let x 1 (var x))", "(// 1 2)", "(made 1)",
    "(let x 1 let)", "(1 + 2)", "(wrong)", "(_)", "(let 1 let 1)", "(list list)", "(list +)", "(list -)", "(+ + +)",
    "(= 1 2)", "(< 1 2)", "(paper)", "(lit)", "(var)", "(let x 1 (x))", "((lit ()))",
    # lit is of a list alone
    "(lit 1)", '(lit "a")', "(lit x)", "(lit lit)", '(lit "")', "(lit 0)", "(lit -1)", "(lit () ())", "(lit (1) 2)",
    "(lit (list))", "(lit (x))", "(lit (+ 1 2))", "(lit (-0))", "(lit (007))", "(lit (lit (1)))", "(lit (1)",
    "(let x 1 (lit x))", "(let x 1 (lit (x)))", '(lit ("a))',
    # a part too many or too few
    "(let x 1)", "(let x)", "(let)", "(let x 1 x x)", "(if 1 2)", "(if 1 2 3 4)", "(if)", "(+ 1)", "(+)", "(+ 1 2 3)",
    "(- 1)", "(* 1)", "(/ 1)", "(same 1)", "(less 1)", "(join 1)", "(item 1)", "(count)", "(count 1 2)", "(figures)",
    "(figures 1 2)", "(each x (list))", "(each x)", "(each x (list) 1 2)", "(over x y (list) 1)", "(over x y)",
    "(over x y (list) 1 2 3)", "(over x (list) 1 2)", "(look)", '(look "a" "b")', "(else 1)", "(else 1 2 3)", "(cry)",
    "(cry 1 2)", "(list 1 2 3 4 5 6 7 8 9)",
    # variables
    '(let "x" 1 x)', '(let "x" 1 2)', "(let 1 1 2)", "(let (x) 1 2)", "(let X 1 2)", "(let x1 1 2)", "(let xX 1 2)",
    "(let abcdefghi 1 2)", "(let abcdefghi 1 abcdefghi)", "(let x-y 1 2)", "(let () 1 2)", '(let "" 1 2)',
    "(let x y x)", "(let x x 1)", "(let x 1 y)", "(each x x 1)", '(each "x" (list) 1)', "(each 1 (list) 1)",
    "(over x x (list) 1 2)", "(over x x (list) 1 x)", "(over x y x 1 2)", "(over x y (list) y 2)",
    "(over x y (list) 1 z)", '(over "x" y (list) 1 2)', '(over x "y" (list) 1 2)', "(over x 1 (list) 1 2)",
    "(+ (let x 1 x) x)", "(letx 1 x)", "(let x1 x)", "(let x 1x)",
    # where a blank is needed
    "(+1 2)", "(+ 12)", "(-1 2)", "(*1 2)", "(/1 2)", "(list1)", "(count1)", "(eachx (list) 1)", "(list 1x)",
    "(overx y (list) 1 2)", "(over xy (list) 1 2)", "(let x 1x)", "(+ 1+2)", "(- 1-2)",
    # tabs and line feeds
    "\t1", "1\t", "\t", "(+\t1 2)", "(+ 1\t2)", "(\t+ 1 2)", "(+ 1 2\t)", "(+ 1 2)\t", "\t(+ 1 2)", '"a\tb"', '"\t"',
    '"a\nb"', '(look "a\n")', '(lit ("a\nb"))', '(lit ("a\tb"))', "(lit\t(1))", "(lit (1\t2))", "(list\t)",
    '(look\t"a")', '(look "a"\t)', "(let\tx 1 x)", "(let x\t1 x)",
    # the bounds of worths
    '"' + "a" * 401 + '"', '(look "' + "a" * 401 + '")', "(lit (" + " ".join(["1"] * 61) + "))",
    "(lit " + "(" * 13 + ")" * 13 + ")", "(lit (" + "1" * 61 + "))",
    '(lit ("' + "a" * 399 + '" "' + "b" * 399 + '" "' + "c" * 199 + '"))',
    # the bounds of expressions
    "(count " * 13 + "1" + ")" * 13, "(list " * 14 + ")" * 14, "(list " * 40 + ")" * 40,
    "(list" + " (list 1 1 1 1 1 1 1)" * 7 + " (list 1 1 1))",
    "(each x (list) (each x (list) (each x (list) x)))",
    "(over x y (list) 1 (over x y (list) 1 (over x y (list) 1 x)))",
    "(each x (list) (over x y (list) 1 (count (each x (list) x))))",
    # other signs
    "[1]", "{1}", "'a'", "(+ 1, 2)", "(+ 1 2);", "#", "(+ 1 2) ; x", "(let x = 1 x)", "(list .)",
]


class Show(unittest.TestCase):
    def test_just_as_told(self):
        for rule, text in WRITTEN:
            self.assertEqual(show_rule(rule), text)

    def test_nested_ones(self):
        inner = ("if", ("less", ("var", "x"), ONE), ("look", ("lit", "a.b")), ("lit", (1, ())))
        rule = ("else", ("let", "x", ("figures", TWO), inner), ("list", ("list",), ("lit", "")))
        self.assertEqual(
            show_rule(rule),
            '(else (let x (figures 2) (if (less x 1) (look "a.b") (lit (1 ())))) (list (list) ""))',
        )

    def test_variables_called_like_words(self):
        for word in WORDS:
            rule = ("let", word, ONE, ("list", ("var", word), ("var", word)))
            self.assertEqual(show_rule(rule), "(let " + word + " 1 (list " + word + " " + word + "))")

    def test_the_same_again(self):
        first = [show_rule(rule) for rule, text in WRITTEN]
        self.assertEqual([show_rule(rule) for rule, text in reversed(WRITTEN)], first[::-1])


class Read(unittest.TestCase):
    def check(self, text, rule):
        found = read_rule(text)
        self.assertEqual(found, rule, repr(text)[:300])
        self.assertEqual(repr(found), repr(rule))
        self.assertIs(is_rule(found), True)

    def refuse(self, text):
        with self.assertRaises(NoText, msg=repr(text)[:300]) as caught:
            read_rule(text)
        self.assertIs(type(caught.exception), NoText)

    def test_what_is_written_is_read_back(self):
        for rule, text in WRITTEN:
            self.check(text, rule)
            self.check(show_rule(rule), rule)
            self.check(" \n" + text + "\n ", rule)

    def test_blanks_and_line_feeds(self):
        for text, rule in READ:
            self.check(text, rule)

    def test_variables_called_like_words(self):
        for word in WORDS:
            self.check("(let " + word + " 1 " + word + ")", ("let", word, ONE, ("var", word)))
            self.check("(each " + word + " (list) (list " + word + "))",
                       ("each", word, ("list",), ("list", ("var", word))))
            self.check("(over y " + word + " (list) 1 " + word + ")",
                       ("over", "y", word, ("list",), ONE, ("var", word)))

    def test_each_letter(self):
        for letter in "abcdefghijklmnopqrstuvwxyz":
            for name in (letter, "a" + letter, letter * 8):
                self.check("(let " + name + " 1 (list 1 " + name + "))",
                           ("let", name, ONE, ("list", ONE, ("var", name))))

    def test_each_sign(self):
        for sign in SIGNS:
            for rule in (("lit", sign), ("lit", (sign, 1, (sign,))), ("look", ("lit", "a" + sign + "b"))):
                self.check(show_rule(rule), rule)

    def test_the_bounds_are_read(self):
        self.check("(count " * 12 + "1" + ")" * 12, counts(12, ONE))
        self.check("(count " * 12 + "(lit " + "(" * 12 + ")" * 25, counts(12, ("lit", nested(11, ()))))
        self.check("(list" + " (list 1 1 1 1 1 1 1)" * 7 + " (list 1 2))", of_sixty(("list", ONE, TWO)))
        self.check("(list 1 1 1 1 1 1 1 1)", ("list",) + (ONE,) * 8)
        self.check('(look "' + "a" * 400 + '")', ("look", ("lit", "a" * 400)))
        self.check("9" * 60, ("lit", 10 ** 60 - 1))
        self.check("(let abcdefgh 1 abcdefgh)", ("let", "abcdefgh", ONE, ("var", "abcdefgh")))
        self.check("(each x (list) (each x (list) x))",
                   ("each", "x", ("list",), ("each", "x", ("list",), ("var", "x"))))
        self.check("(lit (" + " ".join(["1"] * 60) + "))", ("lit", (1,) * 60))

    def test_by_chance(self):
        read = 0
        for seed in range(800):
            chance = random.Random(seed)
            rule = chance_expression(chance, chance.choice([1, 2, 3, 4, 5]), [])
            if is_rule(rule):
                self.check(show_rule(rule), rule)
                read += 1
        self.assertGreater(read, 300)

    def test_what_writes_no_good_expression_is_refused(self):
        for text in REFUSED:
            self.refuse(text)
            self.check("(+ 1 2)", ("+", ONE, TWO))

    def test_refused_with_blanks_about_it(self):
        for text in REFUSED:
            if len(text) < 5000:
                self.refuse("\n" + text + " ")

    def test_refused_within_others(self):
        for text in ["-0", "007", "+1", "1-2", "x", "X", "x1", "()", "(lit 1)", '(lit "a")', "(var x)", "(x)", "(1)",
                     "(+ 1)", "(let x 1)", '(let "x" 1 2)', "(over x x (list) 1 2)", "(+1 2)", '"', "(", ")", "\t",
                     '"\t"', '"\n"', "(list 1 2 3 4 5 6 7 8 9)", "1" * 61, "", "1 2"]:
            self.refuse("(if 1 " + text + " 2)")
            self.refuse("(each y (list) (else 1 " + text + "))")

    def test_no_other_sign_stands_outside_of_texts(self):
        for sign in SIGNS:
            if sign in " ()0123456789":
                continue
            for text in [sign, "1" + sign, "1 " + sign, sign + " 1", "(list)" + sign, sign + "(list)", '"a"' + sign,
                         "(+ 1 2 " + sign + ")", "(" + sign + " + 1 2)", "(+" + sign + " 1 2)", "(+ 1 2" + sign + ")",
                         "(lit" + sign + " ())", "(lit (" + sign + "))", "(list" + sign + ")", "(list " + sign + ")"]:
                self.refuse(text)
            if not "a" <= sign <= "z":
                self.refuse("(let x" + sign + " 1 2)")
                self.refuse("(let " + sign + " 1 2)")
                self.refuse("(let x 1 x" + sign + ")")

    def test_the_same_again(self):
        for _ in range(2):
            for text, rule in READ:
                self.check(text, rule)
                self.refuse(text + ")")
                self.check(text, rule)


if __name__ == "__main__":
    unittest.main()
