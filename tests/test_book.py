import unittest

from leastforge.book import Book
from leastforge.formtexts import read_rule
from leastforge.papers import paper_of

ONE = paper_of(("lit", 1), [])
TWO = paper_of(("lit", 2), [])
LOOKED = paper_of(read_rule('(look "a.b")'), [("made", 5)])


class Books(unittest.TestCase):
    def test_a_new_book(self):
        book = Book()
        self.assertEqual(book.papers, {})
        self.assertIs(type(book.papers), dict)
        self.assertIsNone(book.paper_of("a.b"))

    def test_keep(self):
        book = Book()
        self.assertIsNone(book.keep("a.b", ONE))
        self.assertEqual(book.papers, {"a.b": ONE})
        self.assertEqual(book.paper_of("a.b"), ONE)
        book.keep("a.c", LOOKED)
        self.assertEqual(book.papers, {"a.b": ONE, "a.c": LOOKED})
        self.assertEqual((book.paper_of("a.b"), book.paper_of("a.c")), (ONE, LOOKED))

    def test_the_last_one_that_was_kept(self):
        book = Book()
        for paper in (ONE, TWO, LOOKED, LOOKED, ONE):
            book.keep("a.b", paper)
            self.assertEqual(book.paper_of("a.b"), paper)
            self.assertEqual(book.papers, {"a.b": paper})

    def test_one_paper_of_two_names(self):
        book = Book()
        book.keep("a.b", ONE)
        book.keep("a.c", ONE)
        book.keep("a.b", TWO)
        self.assertEqual(book.papers, {"a.b": TWO, "a.c": ONE})

    def test_names_without_a_paper(self):
        book = Book()
        book.keep("a.b", ONE)
        for name in ("a.c", "b.b", "a", "", "no name"):
            self.assertIsNone(book.paper_of(name))
        self.assertEqual(book.papers, {"a.b": ONE})

    def test_two_books(self):
        one = Book()
        other = Book()
        one.keep("a.b", ONE)
        self.assertEqual(other.papers, {})

    def test_copy(self):
        book = Book()
        book.keep("a.b", ONE)
        other = book.copy()
        self.assertIsInstance(other, Book)
        self.assertIsNot(other, book)
        self.assertIsNot(other.papers, book.papers)
        self.assertEqual(other.papers, {"a.b": ONE})
        book.keep("a.b", TWO)
        book.keep("a.c", TWO)
        self.assertEqual(other.papers, {"a.b": ONE})
        other.keep("a.d", LOOKED)
        self.assertEqual(book.papers, {"a.b": TWO, "a.c": TWO})
        self.assertEqual(other.papers, {"a.b": ONE, "a.d": LOOKED})
        self.assertEqual(Book().copy().papers, {})

    def test_the_same_again(self):
        book = Book()
        book.keep("a.b", ONE)
        book.keep("a.c", TWO)
        for _ in range(2):
            self.assertEqual([book.paper_of(name) for name in ("a.c", "a.d", "a.b")], [TWO, None, ONE])


if __name__ == "__main__":
    unittest.main()
