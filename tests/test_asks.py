import copy
import random
import unittest

from leastforge.asks import near, rests_on, touched_by, way
from leastforge.blame import blamed
from leastforge.book import Book
from leastforge.forge import Forge
from leastforge.house import House
from tests.samples import book_of, chance_deed, house_of, paper

CRY = "(cry 7)"
CRIED = ("wrong", "cried", 7)


def look(name):
    return f'(look "{name}")'


def looked(name, found):
    return paper(look(name), found)


class Ways(unittest.TestCase):
    def goes(self, book, house, name, names):
        kept = copy.deepcopy((book.papers, house.sources, house.rules, house.opened, house.wishes))
        self.assertEqual(way(book, house, name), names)
        self.assertIs(type(way(book, house, name)), list)
        self.assertIsNot(way(book, house, name), way(book, house, name))
        self.assertEqual((book.papers, house.sources, house.rules, house.opened, house.wishes), kept)

    def made(self, sources, rules, opened=(), wishes=("a.r",)):
        """The book and the house of a forge behind a making."""
        forge = Forge("abe")
        forge.house = house_of(sources, rules, opened, wishes)
        forge.make()
        return forge.book, forge.house

    def test_sources_and_nothing(self):
        house = house_of({"a.s": 5}, {}, [], ["a.s"])
        for name in ("a.s", "a.none", "n.n", "no name", "", "a"):
            self.goes(Book(), house, name, [name])
            # A paper of the time when it was a rule is no matter.
            self.goes(book_of({name: looked("a.q", CRIED)}), house, name, [name])

    def test_a_rule_without_a_paper(self):
        self.goes(Book(), house_of({}, {"a.r": look("a.q"), "a.q": CRY}), "a.r", ["a.r"])

    def test_not_wrong(self):
        book, house = self.made({"a.s": 5}, {"a.r": look("a.s")})
        self.goes(book, house, "a.r", ["a.r"])
        book, house = self.made({}, {"a.r": f'(else {look("a.q")} 1)', "a.q": CRY})
        self.goes(book, house, "a.r", ["a.r"])

    def test_wrong_by_itself(self):
        for text in (CRY, "(/ 1 0)", f'(cry {look("a.s")})', f'(+ {look("a.s")} "")', f'(look {look("a.s")})'):
            book, house = self.made({"a.s": 5}, {"a.r": text})
            self.goes(book, house, "a.r", ["a.r"])

    def test_wrong_by_a_look(self):
        book, house = self.made({}, {"a.r": f'(+ 1 {look("a.q")})', "a.q": CRY})
        self.goes(book, house, "a.r", ["a.r", "a.q"])
        self.goes(book, house, "a.q", ["a.q"])

    def test_several(self):
        rules = {"a.r": f'(list 1 {look("a.t")} {look("a.q")})', "a.q": look("b.p"), "b.p": f'(else {look("b.s")} {look("c.o")})',
                 "c.o": "(item (lit ()) 0)", "a.t": "3"}
        book, house = self.made({}, rules, ["b.p", "c.o"])
        self.goes(book, house, "a.r", ["a.r", "a.q", "b.p", "c.o"])
        self.goes(book, house, "b.p", ["b.p", "c.o"])
        self.goes(book, house, "a.t", ["a.t"])

    def test_none_and_shut_at_the_end(self):
        for text in ("a.none", "n.open", "no name", "", "b.q"):
            book, house = self.made({}, {"a.r": look("a.q"), "a.q": look("a.p"), "a.p": look(text), "b.q": CRY}, ["n.open"])
            # The looks at a.q and a.p found none or shut too, but of another name.
            self.goes(book, house, "a.r", ["a.r", "a.q", "a.p", text])
            self.goes(book, house, "a.p", ["a.p", text])

    def test_a_shut_rule_that_is_wrong(self):
        rules = {"a.r": look("b.q"), "b.q": look("b.p"), "b.p": CRY}
        book, house = self.made({}, rules, [], ["a.r", "b.q"])
        self.goes(book, house, "b.q", ["b.q", "b.p"])
        self.goes(book, house, "a.r", ["a.r", "b.q"])

    def test_an_outcome_that_says_of_itself_that_it_is_shut(self):
        book, house = self.made({}, {"a.r": look("a.t"), "a.t": look("b.x"), "b.x": look("a.t")}, ["b.x"])
        self.goes(book, house, "a.r", ["a.r", "a.t"])
        self.goes(book, house, "a.t", ["a.t", "b.x", "a.t"])
        self.goes(book, house, "b.x", ["b.x", "a.t"])

    def test_names_that_stand_there_already(self):
        rules = {"a.r": look("a.q"), "a.q": look("a.p"), "a.p": look("a.q"), "a.o": look("a.o")}
        book = book_of({"a.r": looked("a.q", CRIED), "a.q": looked("a.p", CRIED), "a.p": looked("a.q", CRIED),
                        "a.o": looked("a.o", CRIED)})
        house = house_of({}, rules)
        self.goes(book, house, "a.r", ["a.r", "a.q", "a.p", "a.q"])
        self.goes(book, house, "a.q", ["a.q", "a.p", "a.q"])
        self.goes(book, house, "a.o", ["a.o", "a.o"])

    def test_dropped_and_put_behind_the_making(self):
        rules = {"a.r": look("a.q"), "a.q": look("a.p"), "a.p": CRY}
        book, house = self.made({}, rules)
        self.goes(book, house, "a.r", ["a.r", "a.q", "a.p"])
        house.put("a.p", 1)
        self.goes(book, house, "a.r", ["a.r", "a.q", "a.p"])
        house.drop("a.q")
        self.goes(book, house, "a.r", ["a.r", "a.q"])
        house.put("a.r", 1)
        self.goes(book, house, "a.r", ["a.r"])
        self.goes(book, House(), "a.r", ["a.r"])

    def test_another_rule_put_behind_the_making(self):
        # The book's paper is gone by, whatever the rule is by now.
        book, house = self.made({}, {"a.r": look("a.q"), "a.q": CRY})
        house.put_rule("a.r", ("lit", 1))
        self.goes(book, house, "a.r", ["a.r", "a.q"])

    def test_by_chance(self):
        ends = {"itself": 0, "none": 0, "shut": 0}
        for seed in range(300):
            chance = random.Random(seed)
            forge = Forge("abe")
            for _ in range(chance.randrange(20, 50)):
                chance_deed(chance, forge.house)
            for _ in range(3):
                report = forge.make()
                for name, outcome in report.things.items():
                    if outcome[0] == "wrong":
                        ends[self.leads_to_where_it_went_wrong(forge, report, name)] += 1
                    else:
                        self.goes(forge.book, forge.house, name, [name])
                for _ in range(3):
                    chance_deed(chance, forge.house)
        self.assertGreater(min(ends.values()), 50, ends)

    def leads_to_where_it_went_wrong(self, forge, report, name):
        names = way(forge.book, forge.house, name)
        self.assertEqual(names[0], name)
        outcome = report.things[name]
        for one, other in zip(names, names[1:]):
            self.assertEqual(blamed(forge.book.papers[one]), other)
            self.assertEqual(report.things[one], outcome)
        for one in names[1:-1]:
            self.assertNotIn(outcome, [("wrong", "none", one), ("wrong", "shut", one)])
        if len(names) > 1 and outcome in (("wrong", "none", names[-1]), ("wrong", "shut", names[-1])):
            return outcome[1]
        self.assertEqual(report.things[names[-1]], outcome)
        self.assertIsNone(blamed(forge.book.papers[names[-1]]))
        return "itself"


class Rests(unittest.TestCase):
    def asks(self, book, name, rests, nearest, touched):
        kept = dict(book.papers)
        for ask, answer in ((rests_on, rests), (near, nearest), (touched_by, touched)):
            first = ask(book, name)
            self.assertEqual(first, answer, (ask, name))
            self.assertIs(type(first), list)
            first.append("spoilt")
            self.assertEqual(ask(book, name), answer)
        self.assertEqual(book.papers, kept)

    def test_an_empty_book(self):
        for name in ("a.r", "no name", ""):
            self.asks(Book(), name, [], [], [])

    def test_chains(self):
        book = book_of({"a.z": looked("a.y", CRIED), "a.y": looked("a.x", ("made", 1)), "a.x": looked("a.s", ("made", 1)),
                        "b.o": paper("1")})
        self.asks(book, "a.z", ["a.s", "a.x", "a.y"], [], [])
        self.asks(book, "a.y", ["a.s", "a.x"], ["a.z"], ["a.z"])
        self.asks(book, "a.x", ["a.s"], ["a.y"], ["a.y", "a.z"])
        self.asks(book, "a.s", [], ["a.x"], ["a.x", "a.y", "a.z"])
        self.asks(book, "b.o", [], [], [])
        self.asks(book, "n.n", [], [], [])

    def test_several_looks(self):
        both = '(list (look "a.q") (look "a.p") (look "a.q") (look "a.s"))'
        book = book_of({"a.r": paper(both, *[("made", 1)] * 4), "a.q": looked("a.p", ("made", 1)), "a.p": looked("a.t", CRIED)})
        self.asks(book, "a.r", ["a.p", "a.q", "a.s", "a.t"], [], [])
        self.asks(book, "a.p", ["a.t"], ["a.q", "a.r"], ["a.q", "a.r"])
        self.asks(book, "a.q", ["a.p", "a.t"], ["a.r"], ["a.r"])
        self.asks(book, "a.s", [], ["a.r"], ["a.r"])
        self.asks(book, "a.t", [], ["a.p"], ["a.p", "a.q", "a.r"])

    def test_what_was_not_looked_at(self):
        book = book_of({"a.r": paper('(if (look "a.s") (look "a.p") (look "a.q"))', ("made", 0), ("made", 1))})
        self.asks(book, "a.r", ["a.q", "a.s"], [], [])
        self.asks(book, "a.p", [], [], [])

    def test_rings(self):
        book = book_of({"a.x": looked("a.y", CRIED), "a.y": looked("a.z", CRIED), "a.z": looked("a.x", CRIED),
                        "a.w": looked("a.x", CRIED)})
        ring = ["a.x", "a.y", "a.z"]
        self.asks(book, "a.x", ring, ["a.w", "a.z"], ["a.w"] + ring)
        self.asks(book, "a.y", ring, ["a.x"], ["a.w"] + ring)
        self.asks(book, "a.w", ring, [], [])

    def test_on_itself(self):
        book = book_of({"a.x": looked("a.x", CRIED), "a.y": looked("a.x", CRIED)})
        self.asks(book, "a.x", ["a.x"], ["a.x", "a.y"], ["a.x", "a.y"])
        self.asks(book, "a.y", ["a.x"], [], [])

    def test_texts_that_are_no_names(self):
        book = book_of({"a.x": looked("no name", ("wrong", "none", "no name")), "a.y": looked("", ("wrong", "none", "")),
                        "a.z": paper('(else (look "a.y") (look "a.x"))', CRIED, CRIED)})
        self.asks(book, "no name", [], ["a.x"], ["a.x", "a.z"])
        self.asks(book, "", [], ["a.y"], ["a.y", "a.z"])
        self.asks(book, "a.z", ["", "a.x", "a.y", "no name"], [], [])

    def test_a_long_chain(self):
        names = [f"a.r{n:02}" for n in range(40)]
        book = book_of({name: looked(names[n - 1], CRIED) for n, name in reversed(list(enumerate(names))) if n})
        self.asks(book, names[39], names[:39], [], [])
        self.asks(book, names[0], [], [names[1]], names[1:])
        self.asks(book, names[20], names[:20], [names[21]], names[21:])

    def test_by_chance(self):
        for seed in range(150):
            chance = random.Random(seed)
            names = ["a.a", "a.b", "a.c", "a.d", "no name", "a.e", "b.f"]
            book = book_of({name: paper('(each x (lit ("{}" "{}")) (else (look x) 0))'.format(*chance.sample(names, 2)), CRIED, CRIED)
                            for name in chance.sample(names, chance.randrange(len(names))) if name != "no name"})
            pairs = {(name, one) for name, right in book.papers.items() for one, found in right[1]}
            rests = set(pairs)
            for _ in names:
                rests |= {(one, third) for one, other in rests for another, third in pairs if other == another}
            for name in names:
                self.asks(book, name, sorted(other for one, other in rests if one == name),
                          sorted(one for one, other in pairs if other == name),
                          sorted(one for one, other in rests if other == name))

    def test_the_same_again(self):
        book = book_of({"a.x": looked("a.y", CRIED), "a.y": looked("a.z", CRIED)})
        house = house_of({}, {"a.x": look("a.y"), "a.y": look("a.z")})
        asked = [rests_on(book, "a.x"), near(book, "a.y"), touched_by(book, "a.z"), way(book, house, "a.x")]
        self.assertEqual(asked, [["a.y", "a.z"], ["a.x"], ["a.x", "a.y"], ["a.x", "a.y", "a.z"]])
        again = [way(book, house, "a.x"), touched_by(book, "a.z"), near(book, "a.y"), rests_on(book, "a.x")]
        self.assertEqual(again, asked[::-1])


if __name__ == "__main__":
    unittest.main()
