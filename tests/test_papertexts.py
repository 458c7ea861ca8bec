import copy
import random
import re
import unittest

from leastforge.deeds import is_outcome
from leastforge.errors import ForgeError, NoText
from leastforge.forms import is_rule
from leastforge.papers import is_right
from leastforge.papertexts import read_paper, show_outcome, show_paper
from tests.reference import GREAT, KIND, NOUGHT, PLACE, plain_paper, plain_tree, plainly_read_paper
from tests.samples import SIGNS, chance_rule_and_founds, nested, paper

LONGEST = "a" * 400
OUTCOMES = [
    (("made", 0), "(made 0)"),
    (("made", -17), "(made -17)"),
    (("made", 10 ** 60 - 1), "(made " + "9" * 60 + ")"),
    (("made", ""), '(made "")'),
    (("made", "a (b)"), '(made "a (b)")'),
    (("made", ()), "(made ())"),
    (("made", (1, "a", (2, ()))), '(made (1 "a" (2 ())))'),
    (KIND, '(wrong kind "")'),
    (GREAT, '(wrong great "")'),
    (NOUGHT, '(wrong nought "")'),
    (PLACE, '(wrong place "")'),
    (("wrong", "none", "a.b"), '(wrong none "a.b")'),
    (("wrong", "none", ""), '(wrong none "")'),
    (("wrong", "shut", "no name"), '(wrong shut "no name")'),
    (("wrong", "shut", LONGEST), '(wrong shut "' + LONGEST + '")'),
    (("wrong", "cried", 5), "(wrong cried 5)"),
    (("wrong", "cried", ""), '(wrong cried "")'),
    (("wrong", "cried", (1, ("made",))), '(wrong cried (1 ("made")))'),
]

PAPERS = [
    (paper("1"), "(paper 1 (looks) ((made 1)))"),
    (paper('"a"'), '(paper "a" (looks) ((made "a")))'),
    (paper("(lit ())"), "(paper (lit ()) (looks) ((made ())))"),
    (paper("(list)"), "(paper (list) (looks) ((made ())))"),
    (paper("(cry 1)"), "(paper (cry 1) (looks) ((wrong cried 1) ((made 1))))"),
    (paper("(/ 1 0)"), '(paper (/ 1 0) (looks) ((wrong nought "") ((made 1)) ((made 0))))'),
    (paper('(look "a.b")', ("made", 5)), '(paper (look "a.b") (looks ("a.b" (made 5))) ((made 5) ((made "a.b"))))'),
    (paper('(+ (look "a.b") (look ""))', ("made", 5), ("wrong", "none", "")),
     '(paper (+ (look "a.b") (look "")) (looks ("a.b" (made 5)) ("" (wrong none ""))) '
     '((wrong none "") ((made 5) ((made "a.b"))) ((wrong none "") ((made "")))))'),
    (paper('(else (look "a.b") (let x (count "ab") (* x x)))', KIND),
     '(paper (else (look "a.b") (let x (count "ab") (* x x))) (looks ("a.b" (wrong kind ""))) '
     '((made 4) ((wrong kind "") ((made "a.b"))) ((made 4) ((made 2) ((made "ab"))) ((made 4) ((made 2)) ((made 2))))))'),
]

# Of the form, but not right.
FORMED = [
    ((("lit", 1), (), (("made", 2), ())), "(paper 1 (looks) ((made 2)))"),
    ((("lit", 1), (("no look", KIND), ("a.b", ("made", ()))), (KIND, ())),
     '(paper 1 (looks ("no look" (wrong kind "")) ("a.b" (made ()))) ((wrong kind "")))'),
    ((("look", ("lit", "a.b")), (), (("made", 1), ((("made", 2), ((KIND, ()), (GREAT, ()))), (PLACE, ())))),
     '(paper (look "a.b") (looks) ((made 1) ((made 2) ((wrong kind "")) ((wrong great ""))) ((wrong place ""))))'),
]

GOOD = '(paper (look "a.b") (looks ("a.b" (wrong cried 5))) ((wrong cried 5) ((made "a.b"))))'


def chance_papers(many):
    for seed in range(many):
        rule, founds = chance_rule_and_founds(random.Random(seed))
        right = plain_paper(rule, founds) if is_rule(rule) else None
        if right is not None:
            yield right


def spread(chance, text):
    """The same pieces, with more blanks and line feeds, or none where none is needed."""
    pieces = re.findall(r'"[^"]*"|[()]|[^ \n()"]+', text)
    spaces = ["", " ", "\n", "  ", " \n ", "\n\n"]
    out = chance.choice(spaces)
    for piece, behind in zip(pieces, pieces[1:] + [")"]):
        needed = piece[0] not in '()"' and behind[0] not in '()"'
        out += piece + chance.choice(spaces[1:] if needed else spaces)
    return out


class Outcomes(unittest.TestCase):
    def test_written(self):
        for outcome, text in OUTCOMES:
            self.assertTrue(is_outcome(outcome))
            self.assertEqual(show_outcome(outcome), text)


class Papers(unittest.TestCase):
    def reads(self, text, expected):
        found = read_paper(text)
        self.assertEqual(found, expected)
        self.assertEqual(repr(found), repr(expected))

    def refused(self, text):
        with self.assertRaises(NoText, msg=text):
            read_paper(text)

    def test_written_and_read(self):
        for right, text in PAPERS + FORMED:
            kept = copy.deepcopy(right)
            self.assertEqual(show_paper(right), text)
            self.assertEqual(right, kept)
            self.reads(text, right)
        self.assertTrue(all(is_right(right) for right, text in PAPERS))
        self.assertFalse(any(is_right(wrong) for wrong, text in FORMED))

    def test_each_outcome_found_and_come(self):
        for outcome, text in OUTCOMES:
            right = paper('(look "a.b")', outcome)
            written = f'(paper (look "a.b") (looks ("a.b" {text})) ({text} ((made "a.b"))))'
            self.assertEqual(show_paper(right), written)
            self.reads(written, right)

    def test_by_chance(self):
        seen = 0
        for right in chance_papers(400):
            text = show_paper(right)
            if len(text) <= 60000:
                self.reads(text, right)
                self.reads(spread(random.Random(seen), text), right)
                self.assertEqual(plainly_read_paper(plain_tree(text)[0]), right)
                seen += 1
        self.assertGreater(seen, 150)

    def test_spread(self):
        for right, text in PAPERS + FORMED:
            for seed in range(10):
                self.reads(spread(random.Random(seed), text), right)
        self.reads('(paper(look"a.b")(looks("a.b"(wrong cried 5)))((wrong cried 5)((made"a.b"))))', read_paper(GOOD))
        self.reads('(paper"a"(looks)((made"a")))', paper('"a"'))
        self.reads('\n ( paper\n(look "a.b" ) ( looks ( "a.b" ( wrong\n\ncried 5 ) ) ) ( ( wrong cried 5 ) ( ( made "a.b" ) ) ) ) \n',
                   read_paper(GOOD))

    def test_deep_records(self):
        for levels in (1, 12, 29, 37, 45):
            record = (("made", 1), ())
            for _ in range(levels):
                record = (("made", 1), (record,))
            formed = (("lit", 1), (), record)
            self.reads(show_paper(formed), formed)
        deepest = nested(12, 7)
        formed = (("lit", deepest), (("a.b", ("made", deepest)),), (("wrong", "cried", deepest), ()))
        self.reads(show_paper(formed), formed)

    def test_words_exchanged(self):
        for old, new in [("(paper", "(papers"), ("(paper", '("paper"'), ("(paper", "(lay"), ("(paper", "(Paper"), ("(paper", "("),
                         ("(looks", "(look"), ("(looks", '("looks"'), ("(looks", "(paper"), ("(looks", "("), ("(looks", "(looks looks"),
                         ("(made", "(make"), ("(made", '("made"'), ("(made", "(wrong"), ("(made", "("), ("(made", "(made made"),
                         ("(wrong", "(made"), ("(wrong", '("wrong"'), ("(wrong", "("), ("(wrong", "(wrong wrong"), ("cried", "cry"),
                         ("cried", "made"), ("cried", '"cried"'), ("cried", ""), ("cried", "cried cried"), ("cried", "(cried)"),
                         ("(paper", "(paper paper"), ("(look ", "(looks "), ("(look ", "("), ("(look ", "(lit ")]:
            self.assertIn(old, GOOD)
            self.refused(GOOD.replace(old, new, 1))
            self.refused(new.join(GOOD.rsplit(old, 1)))

    def test_parts_left_out_or_more(self):
        for text in ["(paper)", "(paper 1)", "(paper 1 (looks))", "(paper (looks) ((made 1)))", "(paper 1 ((made 1)))",
                     "(paper 1 (looks) ((made 1)) ((made 1)))", "(paper 1 (looks) (looks) ((made 1)))", "(paper 1 1 (looks) ((made 1)))",
                     "(paper (looks) 1 ((made 1)))", "(paper 1 ((made 1)) (looks))", "(paper 1 (looks) ())", "(paper 1 (looks) (()))",
                     "(paper 1 (looks) (((made 1))))", "(paper 1 (looks) (made 1))", "(paper 1 (looks) 1)", "(paper 1 (looks) made)",
                     "(paper 1 looks ((made 1)))", "(paper 1 () ((made 1)))", "(paper 1 (looks) ((made 1) 1))",
                     "(paper 1 (looks) ((made 1) (made 1)))", "(paper 1 (looks) ((made 1) ()))", "(paper 1 (looks) ((made 1) (((made 1)))))",
                     "(paper 1 (looks) ((made 1) made))", '(paper 1 (looks) ((made 1) "made"))', '(paper 1 (looks) "made")',
                     "paper 1 (looks) ((made 1))", "((paper 1 (looks) ((made 1))))", "(1 (looks) ((made 1)))", '"(paper 1 (looks) ((made 1)))"']:
            self.refused(text)

    def test_no_rules(self):
        deep = "(count " * 13 + "1" + ")" * 13
        for rule in ["x", "(let x 1 y)", "(lit 1)", "(+ 1)", "(+ 1 2 3)", "()", "(made 1)", "01", "-0", "+1", "1.5", "()", "((lit ()))",
                     "(list 1 2 3 4 5 6 7 8 9)", '"' + "a" * 401 + '"', "1" + "0" * 60, deep, "(var x)", "(over x x (lit ()) 1 1)"]:
            self.refused(f"(paper {rule} (looks) ((made 1)))")

    def test_looks_that_are_none(self):
        for look in ['("a.b")', "((made 1))", '("a.b" 1)', '("a.b" (made 1) (made 1))', '("a.b" "a.b" (made 1))', '(a.b (made 1))',
                     "(1 (made 1))", "(() (made 1))", '(("a.b") (made 1))', '("' + "a" * 401 + '" (made 1))', '("a\nb" (made 1))',
                     '("a\tb" (made 1))', '((made 1) "a.b")', '("a.b" ((made 1)))', "()", '"a.b"', "a.b", "1", '("a.b" made 1)']:
            self.refused(f"(paper 1 (looks {look}) ((made 1)))")
            self.refused(f'(paper 1 (looks ("a.b" (made 1)) {look}) ((made 1)))')
            self.refused(f'(paper 1 (looks {look} ("a.b" (made 1))) ((made 1)))')

    def test_outcomes_that_are_none(self):
        for outcome in ["(made)", "(made 1 2)", "(made x)", "(made -0)", "(made 007)", "(made +1)", "(made 1" + "0" * 60 + ")", "()", "(1)",
                        '(made "' + "a" * 401 + '")', "(made (" + "1 " * 61 + "))", "(made " + "(" * 13 + ")" * 13 + ")", "made", "1",
                        '(made ("' + '" "'.join(["a" * 100] * 10) + '"))', '(made "a\nb")', "(made lit ())", "(made (lit ()))", "(wrong)",
                        "(wrong kind)", '(wrong "")', "(wrong kind 0)", "(wrong kind ())", '(wrong kind "a")', '(wrong great " ")',
                        '(wrong nought "0")', "(wrong place 1)", "(wrong none 1)", '(wrong none ("a.b"))', "(wrong none)", "(wrong none a.b)",
                        '(wrong shut "' + "a" * 401 + '")', "(wrong shut 0)", "(wrong cried)", "(wrong cried x)", "(wrong cried 1 2)",
                        "(wrong cried 1" + "0" * 60 + ")", '(wrong odd "")', '(wrong "kind" "")', '(wrong Kind "")', '(kind "")',
                        '(wrong kind "" "")', '(wrong (kind) "")', '("made" 1)', "((made 1))", '(ring "a.b")', '(wrong made "")']:
            self.refused(f"(paper 1 (looks) ({outcome}))")
            self.refused(f"(paper 1 (looks) ((made 1) ({outcome})))")
            self.refused(f'(paper 1 (looks ("a.b" {outcome})) ((made 1)))')

    def test_brackets_and_quotes_left_out(self):
        for place, sign in enumerate(GOOD):
            if sign in '()"':
                self.refused(GOOD[:place] + GOOD[place + 1:])
                self.refused(GOOD[:place] + sign + GOOD[place:])

    def test_something_behind_or_ahead(self):
        for more in ("1", "x", '""', "()", ")", "(", '"', GOOD, "\t", "(looks)"):
            self.refused(GOOD + " " + more)
            self.refused(more + " " + GOOD)

    def test_tabs(self):
        for place in range(len(GOOD) + 1):
            self.refused(GOOD[:place] + "\t" + GOOD[place:])
        self.refused("\t")

    def test_nothing(self):
        for text in ("", " ", "\n", " \n ", "()", "(", ")", '"', "1", "paper", "(looks)", "((made 1))", '(look "a.b")'):
            self.refused(text)

    def test_beside_another_reading(self):
        answers = {"read": 0, "refused": 0}
        good = [show_paper(right) for right in chance_papers(60)]
        good = [text for text in good + [text for right, text in PAPERS + FORMED] if len(text) < 2500]
        for seed in range(3000):
            chance = random.Random(seed)
            pieces = re.findall(r'"[^"]*"|[()]|[^ \n()"]+', chance.choice(good))
            for _ in range(chance.choice([1, 1, 1, 2])):
                self.spoil(chance, pieces)
            answers[self.alike(" ".join(pieces))] += 1
        self.assertGreater(min(answers.values()), 200, answers)

    def spoil(self, chance, pieces):
        place = chance.randrange(len(pieces))
        deed = chance.randrange(4)
        if deed == 0:
            pieces.pop(place)
        elif deed == 1:
            pieces.insert(place, chance.choice(pieces))
        elif deed == 2:
            other = chance.randrange(len(pieces))
            pieces[place], pieces[other] = pieces[other], pieces[place]
        else:
            pieces[place] = chance.choice(["0", '""', '"a.b"', "made", "wrong", "kind", "cried", "none", "looks", "x", "-1", "()", "((made 1))"])

    def alike(self, text):
        try:
            tree = plain_tree(text)
            expected = plainly_read_paper(tree[0]) if tree is not None and len(tree) == 1 else None
        except NoText:
            expected = None
        if expected is None:
            self.refused(text)
            return "refused"
        self.reads(text, expected)
        return "read"

    def test_no_other_refusal(self):
        for seed in range(1500):
            chance = random.Random(seed)
            text = GOOD
            for _ in range(chance.randrange(1, 6)):
                place = chance.randrange(len(text))
                text = text[:place] + chance.choice(SIGNS + '"\n\t()') + text[place + chance.randrange(3):]
            try:
                read_paper(text)
            except ForgeError as error:
                self.assertIs(type(error), NoText)

    def test_the_same_again(self):
        texts = [text for right, text in PAPERS]
        first = [read_paper(text) for text in texts]
        self.refused("(paper")
        self.assertEqual([read_paper(text) for text in reversed(texts)], first[::-1])
        self.assertEqual([show_paper(right) for right in first], texts)


if __name__ == "__main__":
    unittest.main()
