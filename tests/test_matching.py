import copy
import random
import unittest

from leastforge.forms import is_rule
from leastforge.matching import first_otherwise, matched
from tests.reference import KIND, plain_paper, plainly_found, plainly_matched
from tests.samples import chance_expression, chance_outcome, paper

ZERO = ("made", 0)
ONE = ("made", 1)
TWO = ("made", 2)
IF = '(if (look "a.b") (look "a.c") (look "a.d"))'
YES = paper(IF, ONE, TWO)
NO = paper(IF, ZERO, TWO)
NO_ONE = paper(IF, ZERO, ONE)
SHORT = paper(IF, KIND)
PLAIN = paper("(+ 1 2)")


class Matched(unittest.TestCase):
    def tells(self, papers, founds, answer):
        kept = copy.deepcopy((papers, founds))
        self.assertEqual(matched(papers, founds), answer)
        self.assertIs(type(matched(papers, founds)), tuple)
        self.assertEqual((papers, founds), kept)
        self.assertEqual(plainly_matched(papers, founds), answer)

    def test_no_papers(self):
        self.tells([], [], ("none",))
        self.tells([], [ONE, KIND], ("none",))

    def test_one_paper(self):
        self.tells([YES], [], ("look", "a.b"))
        self.tells([YES], [ONE], ("look", "a.c"))
        self.tells([YES], [ONE, TWO], ("whole", 0))
        self.tells([YES], [ONE, ONE], ("none",))
        self.tells([YES], [ZERO], ("none",))
        self.tells([YES], [KIND], ("none",))

    def test_several_papers(self):
        papers = [YES, NO, SHORT, NO_ONE]
        self.tells(papers, [], ("look", "a.b"))
        self.tells(papers, [ONE], ("look", "a.c"))
        self.tells(papers, [ZERO], ("look", "a.d"))
        self.tells(papers, [KIND], ("whole", 2))
        self.tells(papers, [ONE, TWO], ("whole", 0))
        self.tells(papers, [ZERO, TWO], ("whole", 1))
        self.tells(papers, [ZERO, ONE], ("whole", 3))
        self.tells(papers, [TWO], ("none",))
        self.tells(papers, [ZERO, ZERO], ("none",))
        self.tells(papers, [ONE, ONE], ("none",))
        self.tells(papers, [("wrong", "great", "")], ("none",))

    def test_the_first_of_two_that_are_the_same(self):
        self.tells([NO, YES, YES], [ONE, TWO], ("whole", 1))
        self.tells([YES, NO, YES, NO], [ONE, TWO], ("whole", 0))
        self.tells([YES, NO, YES, NO], [ZERO, TWO], ("whole", 1))

    def test_no_looks(self):
        self.tells([PLAIN], [], ("whole", 0))
        self.tells([PLAIN, PLAIN], [], ("whole", 0))
        cried = paper("(cry 1)")
        self.tells([cried, cried], [], ("whole", 0))

    def test_founds_that_are_longer(self):
        self.tells([PLAIN], [ONE], ("none",))
        self.tells([SHORT, YES], [KIND, ONE], ("none",))
        self.tells([YES], [ONE, TWO, ONE], ("none",))

    def test_one_name_with_unlike_founds(self):
        text = '(list (look "a.b") (look "a.b") (look "a.b"))'
        papers = [paper(text, ONE, ONE, TWO), paper(text, ONE, TWO, ONE), paper(text, TWO, TWO, TWO), paper(text, ONE, KIND)]
        self.tells(papers, [ONE, TWO, ONE], ("whole", 1))
        self.tells(papers, [ONE, KIND], ("whole", 3))
        self.tells(papers, [TWO], ("look", "a.b"))
        self.tells(papers, [TWO, ONE], ("none",))
        self.tells(papers, [ONE, TWO, TWO], ("none",))

    def test_founds_that_are_near(self):
        for found, others in [(("made", "1"), [ONE, ("made", ("1",)), ("made", ""), ("wrong", "cried", "1")]),
                              (("made", (1, (2,))), [("made", (1, 2)), ("made", (1, (2, 2))), ("made", ()), ("made", ((1,), 2))]),
                              (("wrong", "none", "a.b"), [("wrong", "shut", "a.b"), ("wrong", "none", ""), ("wrong", "cried", "a.b")]),
                              (ZERO, [("made", ()), ("made", ""), ("made", False)]), (ONE, [("made", True), ("wrong", "cried", 1)]),
                              (("made", (1, 0)), [("made", (1, False)), ("made", (True, 0)), ("made", [1, 0])])]:
            papers = [paper('(look "a.b")', found)]
            self.tells(papers, [found], ("whole", 0))
            for other in others:
                self.tells(papers, [other], ("none",))
            two = [paper('(list (look "a.b") 0 (else (look "a.c") 1))', ("made", 3), found)]
            for other in others:
                self.tells(two, [("made", 3), other], ("none",))

    def test_by_chance(self):
        answers = {"whole": 0, "look": 0, "none": 0}
        for seed in range(300):
            chance = random.Random(seed)
            rule = chance_expression(chance, 4, [])
            few = [chance_outcome(chance) for _ in range(2)]
            papers = [plain_paper(rule, [chance.choice(few) for _ in range(60)]) for _ in range(6)] if is_rule(rule) else []
            papers = [one for one in papers if one is not None]
            for right in papers:
                founds = plainly_found(right)
                for count in range(len(founds) + 1):
                    answer = plainly_matched(papers, founds[:count])
                    self.tells(papers, founds[:count], answer)
                    answers[answer[0]] += 1
                    others = papers[:papers.index(right)]
                    answer = plainly_matched(others, founds[:count])
                    self.tells(others, founds[:count], answer)
                    answers[answer[0]] += 1
        self.assertGreater(min(answers.values()), 100)

    def test_the_same_again(self):
        papers = [YES, NO, SHORT]
        asked = [[], [ONE], [KIND], [ZERO, TWO], [TWO]]
        first = [matched(papers, founds) for founds in asked]
        first_otherwise(YES, [ONE])
        self.assertEqual([matched(papers, founds) for founds in reversed(asked)], first[::-1])


class Otherwise(unittest.TestCase):
    def tells(self, right, founds, answer):
        kept = copy.deepcopy((right, founds))
        self.assertEqual(first_otherwise(right, founds), answer)
        self.assertIs(type(first_otherwise(right, founds)), type(answer))
        self.assertEqual((right, founds), kept)

    def test_none(self):
        self.tells(PLAIN, [], None)
        self.tells(YES, [ONE, TWO], None)
        self.tells(SHORT, [KIND], None)

    def test_the_first_and_a_later_one(self):
        self.tells(YES, [ZERO, TWO], 0)
        self.tells(YES, [ZERO, ZERO], 0)
        self.tells(YES, [ONE, ONE], 1)
        three = paper('(list (look "a.b") (look "a.b") (look "a.b"))', ONE, ONE, ONE)
        self.tells(three, [ONE, ONE, TWO], 2)
        self.tells(three, [ONE, TWO, TWO], 1)
        self.tells(three, [TWO, ONE, ONE], 0)

    def test_founds_that_are_shorter(self):
        self.tells(YES, [], None)
        self.tells(YES, [ONE], None)
        self.tells(YES, [TWO], 0)

    def test_founds_that_are_longer(self):
        self.tells(PLAIN, [ONE, TWO], None)
        self.tells(YES, [ONE, TWO, KIND], None)
        self.tells(YES, [ONE, KIND, TWO], 1)
        self.tells(SHORT, [KIND, ONE, ONE], None)
        self.tells(SHORT, [ONE, KIND], 0)

    def test_founds_that_are_near(self):
        self.tells(YES, [("made", True), TWO], 0)
        self.tells(YES, [("made", "1"), TWO], 0)
        self.tells(YES, [("wrong", "cried", 1), TWO], 0)


if __name__ == "__main__":
    unittest.main()
