import unittest

from leastforge.names import is_name, room_of

LETTERS = "abcdefghijklmnopqrstuvwxyz"
FIGURES = "0123456789"


class Names(unittest.TestCase):
    def good(self, thing):
        self.assertIs(is_name(thing), True, thing)

    def bad(self, thing):
        self.assertIs(is_name(thing), False, thing)

    def test_ordinary_ones(self):
        for text in ["shop.parts", "a.b", "a1.b2", "1.2", "0.0", "room.thing9", "9lives.x"]:
            self.good(text)

    def test_lengths_of_the_words(self):
        for ahead in (0, 1, 2, 11, 12, 13, 14, 100):
            for behind in (0, 1, 2, 11, 12, 13, 14, 100):
                told = 1 <= ahead <= 12 and 1 <= behind <= 12
                for sign in "az09":
                    self.assertIs(is_name(sign * ahead + "." + sign * behind), told, (ahead, behind))
        self.good("abcdefghijkl.012345678901")
        self.bad("abcdefghijklm.0")
        self.bad("a.0123456789012")

    def test_points(self):
        for text in ["", "a", "ab", "abcdefghijkl", ".", "..", "a.", ".a", "a..b", ".a.b", "a.b.", "a.b.c", "...", "a.b..c"]:
            self.bad(text)

    def test_every_sign(self):
        for code in list(range(32, 127)) + [9, 10]:
            sign = chr(code)
            told = sign in LETTERS + FIGURES
            for text in (sign + ".b", "a." + sign, "a" + sign + ".b", sign + "a.b", "a.b" + sign, "a." + sign + "b"):
                self.assertIs(is_name(text), told, text)

    def test_great_letters_and_blanks(self):
        for text in ["A.b", "a.B", "aB.c", "Shop.parts", "shop.Parts", " a.b", "a.b ", "a .b", "a. b", "a b.c", "a.b\n", "\na.b",
                     "a\t.b", "a_b.c", "a-b.c", "-1.2", "a,b", "a:b"]:
            self.bad(text)

    def test_what_is_no_text(self):
        for thing in [None, True, False, 0, 1, 12, 10 ** 199, (), ("a.b",), ("a", ".", "b"), ("a", "b"), ["a.b"], [], {}, {"a.b": 1},
                      ["a", ".", "b"]]:
            self.bad(thing)

    def test_room(self):
        for name, room in [("a.b", "a"), ("shop.parts", "shop"), ("1.2", "1"), ("abcdefghijkl.x", "abcdefghijkl"),
                           ("x.abcdefghijkl", "x"), ("a9.a9", "a9")]:
            self.assertEqual(room_of(name), room)

    def test_the_same_again(self):
        things = ["a.b", "a", None, "b.c", "A.b"]
        first = [is_name(thing) for thing in things]
        self.assertEqual(first, [True, False, False, True, False])
        self.assertEqual([is_name(thing) for thing in reversed(things)], first[::-1])


if __name__ == "__main__":
    unittest.main()
