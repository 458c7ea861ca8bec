import random
import unittest

from leastforge.blame import blamed
from leastforge.forms import is_rule
from leastforge.formtexts import read_rule
from leastforge.papers import paper_of
from tests.reference import GREAT, KIND, NOUGHT, PLACE, plain_paper
from tests.samples import WRITTEN, chance_rule_and_founds

GONE = ("wrong", "none", "gone")
ONE = ("made", 1)

# Every outcome of the second sort.
WRONGS = [KIND, GREAT, NOUGHT, PLACE, GONE, ("wrong", "shut", "a.b"), ("wrong", "cried", 5), ("wrong", "cried", ())]


class Blamed(unittest.TestCase):
    def by(self, name, text, founds):
        paper = paper_of(read_rule(text), founds)
        self.assertEqual(len(paper[1]), len(founds), text)
        self.assertEqual(blamed(paper), name, text)

    def none(self, text, founds=()):
        paper = paper_of(read_rule(text), list(founds))
        self.assertEqual(len(paper[1]), len(founds), text)
        self.assertIsNone(blamed(paper), text)

    def test_a_look_by_itself(self):
        for wrong in WRONGS:
            self.by("a.b", '(look "a.b")', [wrong])
            self.by("", '(look "")', [wrong])
            self.by("no name", '(look "no name")', [wrong])

    def test_as_the_last_part_of_each_form(self):
        for wrong in WRONGS:
            for word in ("+", "-", "*", "/", "same", "less", "join", "item", "list"):
                self.by("p", f'({word} (look "p") 2)', [wrong])
                self.by("q", f'({word} 2 (look "q"))', [wrong])
                self.by("q", f'({word} (look "p") (look "q"))', [ONE, wrong])
            for word in ("count", "figures", "look", "cry"):
                self.by("p", f'({word} (look "p"))', [wrong])
            self.by("p", '(list 1 2 (look "p") 4)', [wrong])
            self.by("h", '(list 1 2 3 4 5 6 7 (look "h"))', [wrong])

    def test_let(self):
        self.by("p", '(let x (look "p") (look "q"))', [GONE])
        self.by("q", '(let x (look "p") (look "q"))', [ONE, GONE])
        self.by("q", '(let x (look "p") (look x))', [("made", "q"), GONE])

    def test_if(self):
        text = '(if (look "p") (look "q") (look "r"))'
        self.by("p", text, [GONE])
        self.by("q", text, [ONE, GONE])
        self.by("q", text, [("made", -1), GONE])
        self.by("r", text, [("made", 0), GONE])
        # The branches are of unlike forms, so that the wrong one would tell something else.
        self.by("r", '(if (look "p") (cry 1) (look "r"))', [("made", 0), GONE])
        self.by("q", '(if (look "p") (look "q") (cry 1))', [("made", 2), GONE])
        self.none('(if (look "p") (cry "q") (look "r"))', [("made", 2)])
        self.none('(if (look "p") (look "q") (cry "r"))', [("made", 0)])
        self.none(text, [("made", "p")])
        self.none('(if (look "p") (+ "a" 1) (look "r"))', [ONE])
        self.none('(if (look "p") (look "q") (+ "a" 1))', [("made", 0)])

    def test_else(self):
        text = '(else (look "p") (look "q"))'
        self.none(text, [ONE])
        self.none(text, [GONE, ONE])
        self.by("q", text, [GONE, GONE])
        self.by("q", text, [GONE, KIND])
        self.by("q", '(else (cry 1) (look "q"))', [GONE])
        self.none('(else (look "p") (cry 1))', [GONE])
        self.none('(else (look "p") (/ 1 0))', [NOUGHT])
        self.by("r", '(list (else (look "p") 1) (look "r"))', [GONE, GONE])
        self.none('(list (else (look "p") 1) (cry 2))', [GONE])
        self.none('(list (else (look "p") 1) 2)', [GONE])
        self.by("r", '(else (else (look "p") (look "q")) (look "r"))', [GONE, KIND, NOUGHT])
        self.by("q", '(else (look "p") (list 1 (count (look "q"))))', [GONE, KIND])

    def test_each(self):
        text = '(each x (lit ("p" "q" "r")) (look x))'
        self.by("p", text, [GONE])
        self.by("q", text, [ONE, GONE])
        self.by("r", text, [ONE, ONE, GONE])
        self.none(text, [ONE, ONE, ONE])
        self.by("l", '(each x (look "l") (look x))', [GONE])
        self.by("q", '(each x (look "l") (look x))', [("made", ("p", "q")), ONE, GONE])
        self.none('(each x (look "l") (look x))', [ONE])
        self.none('(each x (look "l") (look x))', [("made", ("p",) * 11)])
        self.none('(each x (lit ("p" "q")) (+ (look x) 1))', [ONE, ("made", "a")])
        self.none('(each x (lit ("p" 5)) (look x))', [ONE])
        self.by("q", '(each x (lit ("p" "q")) (list 1 (else (look x) (look x)) 2))', [ONE, GONE, KIND])

    def test_over(self):
        text = '(over x y (look "l") (look "s") (+ y (look x)))'
        some = ("made", ("p", "q", "r"))
        self.by("l", text, [GONE])
        self.by("s", text, [some, GONE])
        self.by("s", text, [ONE, GONE])
        self.by("p", text, [some, ONE, GONE])
        self.by("q", text, [some, ONE, ONE, GONE])
        self.by("r", text, [some, ONE, ONE, ONE, GONE])
        self.none(text, [some, ONE, ONE, ONE, ONE])
        self.none(text, [ONE, ONE])
        self.none(text, [("made", ("p",) * 11), ONE])
        self.none(text, [some, ("made", "a"), ONE])
        self.none(text, [some, ONE, ONE, ("made", "a")])

    def test_one_within_the_other(self):
        text = '(each x (lit ("p" "q")) (over y z (lit ("r" "s")) (look x) (+ z (look y))))'
        self.by("p", text, [GONE])
        self.by("s", text, [ONE, ONE, GONE])
        self.by("q", text, [ONE, ONE, ONE, GONE])
        self.by("r", text, [ONE, ONE, ONE, ONE, GONE])

    def test_a_look_of_no_text(self):
        for text in ("1", "(lit ())", '(lit ("p"))', "(list)"):
            self.none(f"(look {text})")
        self.none('(look (look "p"))', [ONE])
        self.none('(look (look "p"))', [("made", ("p",))])
        self.none('(list (look "p") (look 5))', [ONE])

    def test_a_name_found_by_another_look(self):
        self.by("p", '(look (look "p"))', [GONE])
        self.by("q", '(look (look "p"))', [("made", "q"), GONE])
        self.by("p.q", '(look (join (look "r") ".q"))', [("made", "p"), GONE])
        self.by("r", '(look (join (look "r") ".q"))', [GONE])
        self.by("p", '(look (look (look "o")))', [("made", "p"), GONE])

    def test_wrong_by_itself(self):
        for text in ["(/ 1 0)", '(+ "a" 1)', "(cry 5)", '(cry "p")', "(item (list) 0)", "(figures (list))", "(each x 1 x)",
                     f"(+ {10 ** 60 - 1} 1)", '(if "a" 1 2)', "(let x (cry 1) 2)", "(over x y 1 2 3)"]:
            self.none(text)

    def test_wrong_by_itself_behind_a_look(self):
        self.none('(/ (look "p") 0)', [ONE])
        self.none('(+ (look "p") 1)', [("made", "a")])
        self.none('(cry (look "p"))', [("made", "p")])
        self.none('(list (look "p") (cry 1))', [ONE])
        self.none('(let x (look "p") (item x 0))', [ONE])
        self.none('(list (else (look "p") 1) (/ 1 0))', [NOUGHT])
        self.none('(count (look "p"))', [ONE])

    def test_not_wrong(self):
        self.none("1")
        self.none("(list)")
        self.none('(look "p")', [ONE])
        self.none('(look "p")', [("made", ("wrong", "kind", ""))])
        self.none('(else (look "p") "p")', [GONE])
        for rule, text in WRITTEN:
            paper = paper_of(rule, [ONE])
            if paper[2][0][0] == "made":
                self.assertIsNone(blamed(paper))

    def test_the_same_wrong_found_and_come_to(self):
        # The look found nought, and so is what went wrong by itself behind it.
        self.none('(list (else (look "p") 1) (/ 1 0))', [NOUGHT])
        self.by("p", '(list (look "p") (/ 1 0))', [NOUGHT])

    def test_by_chance(self):
        # Each wrong found is marked by its number: no expression asks what sort of a wrong one is, so it goes alike.
        seen = {True: 0, False: 0}
        for seed in range(4000):
            rule, founds = chance_rule_and_founds(random.Random(seed))
            if not is_rule(rule):
                continue
            founds = [found if found[0] == "made" else ("wrong", "cried", ("mark", place))
                      for place, found in enumerate(founds)]
            paper = plain_paper(rule, founds)
            if paper is None:
                continue
            outcome = paper[2][0]
            expected = None
            if outcome[:2] == ("wrong", "cried") and isinstance(outcome[2], tuple) and outcome[2][:1] == ("mark",):
                expected = paper[1][outcome[2][1]][0]
            self.assertEqual(blamed(paper), expected, paper)
            if outcome[0] == "wrong":
                seen[expected is None] += 1
        self.assertGreater(seen[True], 200)
        self.assertGreater(seen[False], 200)

    def test_the_same_again(self):
        papers = [paper_of(read_rule(text), [GONE, GONE]) for text in
                  ('(look "p")', '(else (look "p") (look "q"))', "(cry 1)", "1", '(look (look "p"))')]
        first = [blamed(paper) for paper in papers]
        self.assertEqual(first, ["p", "q", None, None, "p"])
        self.assertEqual([blamed(paper) for paper in reversed(papers)], first[::-1])


if __name__ == "__main__":
    unittest.main()
