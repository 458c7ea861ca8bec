import copy
import unittest

from leastforge.formtexts import read_rule
from leastforge.papers import is_right
from leastforge.tasks import Task
from tests.reference import KIND
from tests.samples import paper

ZERO = ("made", 0)
ONE = ("made", 1)
TWO = ("made", 2)
IF = '(if (look "a.b") (look "a.c") (look "a.d"))'
YES = paper(IF, ONE, TWO)
NO = paper(IF, ZERO, TWO)
SHORT = paper(IF, KIND)


class Tasks(unittest.TestCase):
    def goes(self, task, founds, names, how, came):
        """It needs these names, one after the other, finds these founds there, and ends so."""
        self.assertEqual((task.needs, task.founds, task.paper, task.how), (None, [], None, None))
        self.assertIsNone(task.step())
        for number, (name, found) in enumerate(zip(names, founds)):
            self.assertEqual((task.needs, task.founds, task.paper, task.how), (name, founds[:number], None, None))
            self.assertIsNone(task.step(found))
        self.assertEqual((task.needs, task.founds, task.how), (None, founds, how))
        self.assertEqual(repr(task.how), repr(how))
        self.assertEqual(task.paper, came)
        self.assertEqual(repr(task.paper), repr(came))
        self.assertTrue(is_right(task.paper))

    def task(self, text=IF, kept=None, rows=()):
        return Task("a.r", read_rule(text), kept, list(rows))


class Fields(Tasks):
    def test_at_first(self):
        for kept in (None, YES, paper("1")):
            for rows in ([], [("abe", YES), ("zoe", NO)]):
                task = Task("a.r", read_rule(IF), kept, rows)
                self.assertEqual((task.name, task.needs, task.founds, task.paper, task.how), ("a.r", None, [], None, None))
                self.assertIs(type(task.founds), list)

    def test_what_is_handed_in_stays(self):
        rows = [("abe", NO), ("zoe", YES)]
        kept = copy.deepcopy(rows)
        task = Task("a.r", read_rule(IF), SHORT, rows)
        self.goes(task, [ONE, TWO], ["a.b", "a.c"], ("taken", "zoe"), YES)
        self.assertEqual(rows, kept)

    def test_rows_changed_behind_the_call(self):
        rows = [("abe", NO), ("zoe", YES)]
        task = Task("a.r", read_rule(IF), None, rows)
        rows.clear()
        rows.append(("bad", SHORT))
        self.goes(task, [ONE, TWO], ["a.b", "a.c"], ("taken", "zoe"), YES)


class Done(Tasks):
    def test_without_looks(self):
        self.goes(self.task("(+ 1 2)"), [], [], ("done", ("new",)), paper("(+ 1 2)"))
        self.goes(self.task("(cry 1)"), [], [], ("done", ("new",)), paper("(cry 1)"))

    def test_new(self):
        self.goes(self.task(), [ONE, TWO], ["a.b", "a.c"], ("done", ("new",)), YES)
        self.goes(self.task(), [ZERO, TWO], ["a.b", "a.d"], ("done", ("new",)), NO)
        self.goes(self.task(), [KIND], ["a.b"], ("done", ("new",)), SHORT)

    def test_new_with_rows(self):
        self.goes(self.task(rows=[("abe", YES), ("zoe", SHORT)]), [ZERO, TWO], ["a.b", "a.d"], ("done", ("new",)), NO)
        self.goes(self.task(rows=[("abe", YES)]), [ONE, ONE], ["a.b", "a.c"], ("done", ("new",)), paper(IF, ONE, ONE))

    def test_another_rule(self):
        for kept in (paper("1"), paper('(if (look "a.b") (look "a.c") (look "a.e"))', ONE, TWO), paper('(look "a.b")', ONE)):
            self.goes(self.task(kept=kept), [ONE, TWO], ["a.b", "a.c"], ("done", ("rule",)), YES)
            self.goes(self.task(kept=kept, rows=[("abe", NO)]), [ONE, TWO], ["a.b", "a.c"], ("done", ("rule",)), YES)
        self.goes(self.task("2", paper("1")), [], [], ("done", ("rule",)), paper("2"))
        # Their looks and records are the same, but not the rules.
        self.goes(self.task('(+ (look "a.b") 2)', paper('(* (look "a.b") 2)', TWO)), [TWO], ["a.b"], ("done", ("rule",)),
                  paper('(+ (look "a.b") 2)', TWO))

    def test_a_look_that_is_otherwise(self):
        self.goes(self.task(kept=YES), [ZERO, TWO], ["a.b", "a.d"], ("done", ("look", 0, "a.b", ONE, ZERO)), NO)
        self.goes(self.task(kept=YES), [ONE, KIND], ["a.b", "a.c"], ("done", ("look", 1, "a.c", TWO, KIND)),
                  paper(IF, ONE, KIND))
        self.goes(self.task(kept=YES), [KIND], ["a.b"], ("done", ("look", 0, "a.b", ONE, KIND)), SHORT)
        self.goes(self.task(kept=SHORT), [ONE, TWO], ["a.b", "a.c"], ("done", ("look", 0, "a.b", KIND, ONE)), YES)

    def test_the_first_that_is_otherwise(self):
        text = '(list (look "a.b") (look "a.b") (look "a.c"))'
        self.goes(self.task(text, paper(text, ONE, ONE, ONE)), [ONE, TWO, TWO], ["a.b", "a.b", "a.c"],
                  ("done", ("look", 1, "a.b", ONE, TWO)), paper(text, ONE, TWO, TWO))

    def test_otherwise_with_rows(self):
        self.goes(self.task(kept=YES, rows=[("abe", NO), ("zoe", YES)]), [ZERO, ZERO], ["a.b", "a.d"],
                  ("done", ("look", 0, "a.b", ONE, ZERO)), paper(IF, ZERO, ZERO))

    def test_names_that_are_none(self):
        wrong = ("wrong", "none", "no name")
        self.goes(self.task('(look "no name")'), [wrong], ["no name"], ("done", ("new",)), paper('(look "no name")', wrong))


class Left(Tasks):
    def test_without_looks(self):
        self.goes(self.task("(+ 1 2)", paper("(+ 1 2)")), [], [], ("left",), paper("(+ 1 2)"))

    def test_all_found_so(self):
        for kept, founds, names in [(YES, [ONE, TWO], ["a.b", "a.c"]), (NO, [ZERO, TWO], ["a.b", "a.d"]), (SHORT, [KIND], ["a.b"])]:
            self.goes(self.task(kept=kept), founds, names, ("left",), kept)
            # The book's is the first one, also where it lies on the shelf too.
            self.goes(self.task(kept=kept, rows=[("abe", YES), ("zoe", NO), ("bob", SHORT)]), founds, names, ("left",), kept)

    def test_one_name_with_unlike_founds(self):
        text = '(list (look "a.b") (look "a.b"))'
        self.goes(self.task(text, paper(text, ONE, TWO)), [ONE, TWO], ["a.b", "a.b"], ("left",), paper(text, ONE, TWO))
        self.goes(self.task(text, paper(text, ONE, TWO)), [ONE, ONE], ["a.b", "a.b"],
                  ("done", ("look", 1, "a.b", TWO, ONE)), paper(text, ONE, ONE))


class Taken(Tasks):
    def test_without_looks(self):
        self.goes(self.task("(+ 1 2)", None, [("abe", paper("(+ 1 2)"))]), [], [], ("taken", "abe"), paper("(+ 1 2)"))

    def test_among_several(self):
        rows = [("abe", YES), ("", NO), ("b ~", SHORT)]
        for kept in (None, paper("1"), paper(IF, ONE, ONE)):
            self.goes(self.task(kept=kept, rows=rows), [ONE, TWO], ["a.b", "a.c"], ("taken", "abe"), YES)
            self.goes(self.task(kept=kept, rows=rows), [ZERO, TWO], ["a.b", "a.d"], ("taken", ""), NO)
            self.goes(self.task(kept=kept, rows=rows), [KIND], ["a.b"], ("taken", "b ~"), SHORT)

    def test_the_first_of_such_rows(self):
        rows = [("abe", NO), ("zoe", YES), ("abe", YES), ("zoe", NO)]
        self.goes(self.task(rows=rows), [ONE, TWO], ["a.b", "a.c"], ("taken", "zoe"), YES)
        self.goes(self.task(rows=rows), [ZERO, TWO], ["a.b", "a.d"], ("taken", "abe"), NO)

    def test_a_book_that_is_otherwise(self):
        self.goes(self.task(kept=YES, rows=[("abe", YES), ("zoe", NO)]), [ZERO, TWO], ["a.b", "a.d"], ("taken", "zoe"), NO)


class Whole(Tasks):
    def test_the_next_name_is_the_same_by_papers_and_by_runs(self):
        founds = [ONE, TWO]
        for kept in (None, YES, NO, SHORT):
            for rows in ([], [("abe", NO)], [("abe", YES)], [("abe", SHORT), ("zoe", NO), ("bob", YES)]):
                task = self.task(kept=kept, rows=rows)
                task.step()
                self.assertEqual(task.needs, "a.b")
                task.step(founds[0])
                self.assertEqual(task.needs, "a.c")
                task.step(founds[1])
                self.assertEqual(task.paper, YES)

    def test_many_looks_and_many_rows(self):
        names = " ".join(f'"a.s{n}"' for n in range(10))
        text = f"(each x (lit ({names})) (each y (lit ({names})) (list (look x) (look y))))"
        founds = [("made", n) for n in range(200)]
        rows = [("abe", paper(text, *founds[:n], KIND)) for n in range(0, 200)] * 3
        task = self.task(text, None, rows + [("zoe", paper(text, *founds))])
        task.step()
        for found in founds:
            self.assertIsNone(task.paper)
            task.step(found)
        self.assertEqual((task.how, task.needs, task.founds), (("taken", "zoe"), None, founds))


if __name__ == "__main__":
    unittest.main()
