import random
import unittest

from leastforge.errors import ForgeError, NoText
from leastforge.papers import is_right
from leastforge.papertexts import read_paper, show_paper
from leastforge.shelf import Shelf
from leastforge.shelftexts import read_shelf, show_shelf
from tests.samples import SIGNS, changed, chance_house, chance_laid, paper, shelf_of, spots

ONE = paper("1")
LOOKED = paper('(look "a.b")', ("made", 5))
LIE = (("lit", 1), (("a.b", ("made", 2)),), (("made", 3), ()))
ONE_TEXT = "(paper 1 (looks) ((made 1)))"
LOOKED_TEXT = '(paper (look "a.b") (looks ("a.b" (made 5))) ((made 5) ((made "a.b"))))'
LIE_TEXT = '(paper 1 (looks ("a.b" (made 2))) ((made 3)))'
EVERY = "".join(sign for sign in SIGNS)

# No papers of the form.
OTHERS = [None, True, 0, "", ONE_TEXT, (), ONE[:2], ONE + ((),), (ONE,), (("lit", True),) + ONE[1:], (("var", "x"),) + ONE[1:],
          (("lit", 1), None, ONE[2]), (("lit", 1), (("a.b",),), ONE[2]), (("lit", 1), (("a.b", ("made", True)),), ONE[2]),
          (("lit", 1), ((1, ("made", 1)),), ONE[2]), (("lit", 1), (("a" * 401, ("made", 1)),), ONE[2]), (("lit", 1), (), ()),
          (("lit", 1), (), None), (("lit", 1), (), (("made", True), ())), (("lit", 1), (), (("made", 1), None)),
          (("lit", 1), (), (("made", 1), (("made", 1),))), (("lit", 1), (), (("made", 1), ((("made", 1), ()), None))),
          (("lit", 1), (), (("made", 1), (), ())), (("lit", 1), (), (("made", 1),)), (("lit", 1), (), (("wrong", "kind", 1), ())),
          (("lit", 1), (), (("made", 10 ** 60), ())), (("lit", 10 ** 60), (), ONE[2]), (("lit", 1), (("a\nb", ("made", 1)),), ONE[2])]


class Shown(unittest.TestCase):
    def shows(self, rows, text):
        shelf = shelf_of(rows)
        self.assertEqual(show_shelf(shelf), text)
        self.assertEqual(repr(shelf.lying()), repr(rows))

    def test_no_rows(self):
        self.shows([], "")

    def test_rows_in_their_order(self):
        self.shows([("abe", ONE)], f'(lay "abe" {ONE_TEXT})')
        self.shows([("zoe", LOOKED), ("abe", ONE), ("", LOOKED), ("abe", ONE)],
                   f'(lay "zoe" {LOOKED_TEXT})\n(lay "abe" {ONE_TEXT})\n(lay "" {LOOKED_TEXT})\n(lay "abe" {ONE_TEXT})')

    def test_not_right_but_of_the_form(self):
        self.assertFalse(is_right(LIE))
        self.shows([("liar", LIE), ("abe", ONE)], f'(lay "liar" {LIE_TEXT})\n(lay "abe" {ONE_TEXT})')

    def test_others_are_left_out(self):
        for thing in OTHERS:
            self.shows([("abe", thing)], "")
            self.shows([("abe", thing), ("zoe", ONE), ("abe", thing)], f'(lay "zoe" {ONE_TEXT})')
        self.shows([("abe", thing) for thing in OTHERS], "")

    def test_all_signs_of_who(self):
        self.assertEqual(len(EVERY), 93)
        self.shows([(EVERY, ONE)], f'(lay "{EVERY}" {ONE_TEXT})')
        self.assertEqual(read_shelf(show_shelf(shelf_of([(EVERY, ONE)]))).lying(), [(EVERY, ONE)])


class Read(unittest.TestCase):
    def reads(self, text, rows):
        shelf = read_shelf(text)
        self.assertIsInstance(shelf, Shelf)
        self.assertEqual(repr(shelf.lying()), repr(rows))

    def refused(self, text):
        with self.assertRaises(NoText, msg=text):
            read_shelf(text)

    def test_no_rows(self):
        for text in ("", " ", "\n", " \n\n  \n"):
            self.reads(text, [])

    def test_rows(self):
        self.reads(f'(lay "abe" {ONE_TEXT})', [("abe", ONE)])
        self.reads(f'(lay "zoe" {LOOKED_TEXT})\n(lay "" {ONE_TEXT})\n(lay "zoe" {LIE_TEXT})', [("zoe", LOOKED), ("", ONE), ("zoe", LIE)])

    def test_blanks_and_line_feeds(self):
        rows = [("abe", ONE), ("b c", LOOKED)]
        self.reads(f'\n\n (lay "abe" {ONE_TEXT}) \n\n\n (lay "b c" {LOOKED_TEXT}) \n', rows)
        self.reads(f'(lay"abe"{ONE_TEXT})(lay"b c"{LOOKED_TEXT})', rows)
        self.reads(f'( lay\n"abe"\n\n{ONE_TEXT} ) ( lay "b c" {LOOKED_TEXT.replace(" ", "  ")})', rows)
        self.reads(f'(lay "abe" {ONE_TEXT}) (lay "b c" {LOOKED_TEXT})', rows)

    def test_refused(self):
        good = f'(lay "abe" {LOOKED_TEXT})'
        bad = ["lay", "(lay)", '(lay "abe")', f"(lay {ONE_TEXT})", f"(lay abe {ONE_TEXT})", f"(lay 1 {ONE_TEXT})", f'("abe" {ONE_TEXT})',
               f'(lay ("abe") {ONE_TEXT})', f'(lay "{"a" * 401}" {ONE_TEXT})', f'(lay "a\nb" {ONE_TEXT})', f'(lay "a\tb" {ONE_TEXT})',
               f'(lay "abe" {ONE_TEXT} {ONE_TEXT})', f'(lay "abe" "zoe" {ONE_TEXT})', f'(lay {ONE_TEXT} "abe")', f'(laid "abe" {ONE_TEXT})',
               f'("lay" "abe" {ONE_TEXT})', f'((lay "abe" {ONE_TEXT}))', ONE_TEXT, "1", '""', "()", "(", ")", '"', "\t", "x",
               '(lay "abe" 1)', '(lay "abe" ())', '(lay "abe" (paper))', '(lay "abe" (paper x (looks) ((made 1))))',
               f'(lay "abe" {ONE_TEXT}', f'lay "abe" {ONE_TEXT})', f'(lay "abe {ONE_TEXT})', f'(lay lay "abe" {ONE_TEXT})']
        for text in bad:
            self.refused(text)
            self.refused(good + "\n" + text)
            self.refused(text + "\n" + good)
            self.refused(good + "\n" + text + "\n" + good)

    def test_tabs(self):
        good = f'(lay "abe" {ONE_TEXT})\n(lay "zoe" {ONE_TEXT})'
        for place in range(len(good) + 1):
            self.refused(good[:place] + "\t" + good[place:])

    def test_no_other_refusal(self):
        good = f'(lay "abe" {ONE_TEXT})\n(lay "zoe" {LOOKED_TEXT})'
        for seed in range(1500):
            chance = random.Random(seed)
            text = good
            for _ in range(chance.randrange(1, 5)):
                place = chance.randrange(len(text))
                text = text[:place] + chance.choice(SIGNS + '"\n\t()') + text[place + chance.randrange(3):]
            try:
                read_shelf(text)
            except ForgeError as error:
                self.assertIs(type(error), NoText)

    def test_a_shelf_of_its_own(self):
        text = f'(lay "abe" {ONE_TEXT})'
        one, other = read_shelf(text), read_shelf(text)
        one.lay("zoe", LOOKED)
        self.assertEqual(other.lying(), [("abe", ONE)])
        self.assertEqual(one.fitting(("lit", 1)), [("abe", ONE)])
        self.assertEqual(show_shelf(one), f'{text}\n(lay "zoe" {LOOKED_TEXT})')


class Whole(unittest.TestCase):
    def is_formed(self, thing):
        """Whether it is written and read again as it is: what is no paper of the form never is."""
        try:
            return repr(read_paper(show_paper(thing))) == repr(thing)
        except (NoText, TypeError, IndexError, AttributeError, KeyError):
            return False

    def test_by_chance(self):
        left_out = lies = 0
        for seed in range(250):
            chance = random.Random(seed)
            house = chance_house(chance)
            rows = [(chance.choice(["abe", "", "b (c)"]), chance_laid(chance, house)) for _ in range(8)]
            kept = [row for row in rows if self.is_formed(row[1])]
            text = show_shelf(shelf_of(rows))
            self.assertEqual(text, "\n".join(f'(lay "{who}" {show_paper(one)})' for who, one in kept))
            self.assertEqual(repr(read_shelf(text).lying()), repr(kept))
            self.assertEqual(show_shelf(read_shelf(text)), text)
            left_out += len(rows) - len(kept)
            lies += len([row for row in kept if not is_right(row[1])])
        self.assertGreater(left_out, 200)
        self.assertGreater(lies, 50)

    def test_each_spot_of_a_paper(self):
        others = [None, True, 0, "made", (), ("made", 1), ("wrong", "kind", ""), ((), ()), (("made", 1), ()), 10 ** 60]
        for way in spots(LOOKED):
            for other in others:
                thing = changed(LOOKED, way, lambda inner: other)
                self.assertEqual(show_shelf(shelf_of([("abe", thing)])) != "", self.is_formed(thing), thing)

    def test_the_deepest_that_may_be_laid(self):
        record = (("made", 1), ())
        for _ in range(28):
            record = (("made", 1), (record,))
        rows = [("abe", (("lit", 1), (), record))]
        self.assertEqual(read_shelf(show_shelf(shelf_of(rows))).lying(), rows)

    def test_a_thousand_rows(self):
        rows = [(f"n{number}", paper(f'(list {number} (look "a.b"))', ("made", number))) for number in range(1000)]
        text = show_shelf(shelf_of(rows))
        self.assertEqual(len(text.split("\n")), 1000)
        self.assertEqual(read_shelf(text).lying(), rows)

    def test_the_same_again(self):
        shelf = shelf_of([("abe", ONE), ("zoe", None), ("zoe", LIE)])
        first = show_shelf(shelf)
        shelf.fitting(("lit", 1))
        read_shelf(first)
        self.assertEqual(show_shelf(shelf), first)
        self.assertEqual(read_shelf(first).lying(), read_shelf(first).lying())


if __name__ == "__main__":
    unittest.main()
