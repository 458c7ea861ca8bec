import copy
import random
import unittest

from leastforge.book import Book
from leastforge.forge import Forge, Report
from leastforge.formtexts import read_rule
from leastforge.house import House
from leastforge.making import Making
from leastforge.plain import plain
from leastforge.rings import told
from leastforge.shelf import Shelf
from tests.samples import chance_house, house_of, paper, shelf_of

CHAIN = {"a.r": '(+ (look "a.q") 1)', "a.q": '(* (look "a.s") 10)'}
R50 = paper(CHAIN["a.r"], ("made", 50))
Q5 = paper(CHAIN["a.q"], ("made", 5))


def forge_with(house, shelf=None, who="abe"):
    """A forge whose house is made anew by deeds, as that one is."""
    forge = Forge(who, shelf)
    for name, worth in house.sources.items():
        forge.house.put(name, worth)
    for name, rule in house.rules.items():
        forge.house.put_rule(name, rule)
    for name in house.opened:
        forge.house.open_up(name)
    for name in house.wishes:
        forge.house.wish(name)
    return forge


def chain_forge(shelf=None, who="abe"):
    return forge_with(house_of({"a.s": 5}, CHAIN, [], ["a.r"]), shelf, who)


def fields(report):
    return (report.things, report.how, report.waits, report.steps, report.stopped, report.told)


class Fields(unittest.TestCase):
    def test_a_new_forge(self):
        forge = Forge("abe")
        self.assertEqual(forge.who, "abe")
        self.assertIsInstance(forge.house, House)
        self.assertIsInstance(forge.book, Book)
        self.assertIsInstance(forge.shelf, Shelf)
        self.assertEqual((forge.house.sources, forge.house.rules, forge.house.opened, forge.house.wishes), ({}, {}, [], []))
        self.assertEqual((forge.book.papers, forge.shelf.lying()), ({}, []))

    def test_its_own_shelf(self):
        one, other = Forge("abe"), Forge("zoe")
        one.shelf.lay("abe", R50)
        one.house.put("a.s", 1)
        one.book.keep("a.r", R50)
        self.assertEqual((other.shelf.lying(), other.house.sources, other.book.papers), ([], {}, {}))

    def test_the_shelf_that_is_handed_in(self):
        shelf = Shelf()
        forge = Forge("abe", shelf)
        self.assertIs(forge.shelf, shelf)
        shelf.lay("zoe", 7)
        self.assertEqual(forge.shelf.lying(), [("zoe", 7)])

    def test_a_making_of_nothing(self):
        report = Forge("abe").make()
        self.assertIsInstance(report, Report)
        self.assertEqual(fields(report), ({}, {}, {}, 0, False, {}))
        self.assertEqual(fields(Forge("").make([3, 4], 0)), ({}, {}, {}, 0, False, {}))


class Makings(unittest.TestCase):
    def test_kept_and_laid(self):
        forge = chain_forge()
        report = forge.make()
        self.assertEqual(fields(report), (
            {"a.s": ("made", 5), "a.q": ("made", 50), "a.r": ("made", 51)},
            {"a.r": ("done", ("new",)), "a.q": ("done", ("new",))}, {}, 4, False, {"a.r": ("made", 51)}))
        self.assertEqual(forge.book.papers, {"a.r": R50, "a.q": Q5})
        self.assertEqual(forge.shelf.lying(), [("abe", Q5), ("abe", R50)])

    def test_the_order_of_names(self):
        rules = {"b.b": "2", "a.z": "3", "a.b": "4", "a1.a": "5", "a.b2": "6", "aa.a": "7"}
        for picks in (None, [5, 4, 3, 2, 1, 0], [1, 3, 1]):
            forge = forge_with(house_of({}, rules, [], sorted(rules, key=rules.get)), None, "zoe")
            forge.make(picks)
            self.assertEqual([row[1][0][1] for row in forge.shelf.lying()], [4, 6, 3, 5, 7, 2])
            self.assertEqual([row[0] for row in forge.shelf.lying()], ["zoe"] * 6)

    def test_a_second_one_leaves_all(self):
        forge = chain_forge()
        forge.make()
        before = (dict(forge.book.papers), forge.shelf.lying())
        report = forge.make()
        self.assertEqual(fields(report), (
            {"a.s": ("made", 5), "a.q": ("made", 50), "a.r": ("made", 51)}, {"a.r": ("left",), "a.q": ("left",)}, {}, 4, False,
            {"a.r": ("made", 51)}))
        self.assertEqual((forge.book.papers, forge.shelf.lying()), before)

    def test_behind_deeds(self):
        forge = chain_forge()
        forge.make()
        forge.house.put("a.s", 6)
        report = forge.make()
        self.assertEqual(report.how, {"a.r": ("done", ("look", 0, "a.q", ("made", 50), ("made", 60))),
                                      "a.q": ("done", ("look", 0, "a.s", ("made", 5), ("made", 6)))})
        self.assertEqual(len(forge.shelf.lying()), 4)
        self.assertEqual(forge.book.papers["a.q"], paper(CHAIN["a.q"], ("made", 6)))
        # What was made once lies on the shelf yet.
        forge.house.put("a.s", 5)
        report = forge.make()
        self.assertEqual(report.how, {"a.r": ("taken", "abe"), "a.q": ("taken", "abe")})
        self.assertEqual(forge.book.papers, {"a.r": R50, "a.q": Q5})
        self.assertEqual(len(forge.shelf.lying()), 4)
        forge.house.put_rule("a.r", read_rule("7"))
        self.assertEqual(forge.make().how, {"a.r": ("done", ("rule",))})
        self.assertEqual(forge.book.papers, {"a.r": paper("7"), "a.q": Q5})

    def test_what_lies_there_is_not_laid_again(self):
        # Of two names with one rule the paper is laid once.
        forge = forge_with(house_of({"a.s": 5}, {"a.x": '(look "a.s")', "a.y": '(look "a.s")'}, [], ["a.y", "a.x"]))
        report = forge.make()
        self.assertEqual(report.how, {"a.x": ("done", ("new",)), "a.y": ("done", ("new",))})
        right = paper('(look "a.s")', ("made", 5))
        self.assertEqual(forge.shelf.lying(), [("abe", right)])
        self.assertEqual(forge.book.papers, {"a.x": right, "a.y": right})

    def test_what_was_left_is_not_laid(self):
        forge = chain_forge()
        forge.book.keep("a.q", Q5)
        self.assertEqual(forge.make().how, {"a.q": ("left",), "a.r": ("done", ("new",))})
        self.assertEqual(forge.shelf.lying(), [("abe", R50)])

    def test_what_is_near_is_no_hindrance(self):
        lie = (("lit", 1), (), (("made", True), ()))
        shelf = shelf_of([("liar", lie), ("liar", ("abe", paper("1"))), ("liar", None)])
        forge = forge_with(house_of({}, {"a.r": "1"}, [], ["a.r"]), shelf)
        self.assertEqual(forge.make().how, {"a.r": ("done", ("new",))})
        self.assertEqual(repr(shelf.lying()[3:]), repr([("abe", paper("1"))]))

    def test_two_forges_with_one_shelf(self):
        shelf = Shelf()
        one, other = chain_forge(shelf, "abe"), chain_forge(shelf, "zoe")
        one.make()
        report = other.make()
        self.assertEqual(report.how, {"a.r": ("taken", "abe"), "a.q": ("taken", "abe")})
        self.assertEqual(other.book.papers, {"a.r": R50, "a.q": Q5})
        self.assertEqual(shelf.lying(), [("abe", Q5), ("abe", R50)])
        other.house.put("a.s", 6)
        other.make()
        self.assertEqual([row[0] for row in shelf.lying()], ["abe", "abe", "zoe", "zoe"])
        one.house.put("a.s", 6)
        self.assertEqual(one.make().how, {"a.r": ("taken", "zoe"), "a.q": ("taken", "zoe")})
        self.assertEqual(len(shelf.lying()), 4)
        self.assertEqual(one.make().how, {"a.r": ("left",), "a.q": ("left",)})

    def test_picks(self):
        house = house_of({}, {name: '(else (look "n.n") 1)' for name in ("a.a", "a.b", "a.c")}, [], ["a.b", "a.a", "a.c"])
        picks = [2, 2, 1]
        report = forge_with(house).make(picks, 2)
        self.assertEqual((report.steps, report.stopped, report.things), (2, True, {"a.c": ("made", 1)}))
        self.assertEqual(picks, [2, 2, 1])
        self.assertEqual(forge_with(house).make([1, 0, 1], 3).things, {"a.a": ("made", 1)})
        self.assertEqual(forge_with(house).make([1, 0, 1, 9, 9, 9, 9, 9]).steps, 6)


class Stopped(unittest.TestCase):
    def test_with_steps(self):
        whole = {"a.s": ("made", 5), "a.q": ("made", 50), "a.r": ("made", 51)}
        hows = {"a.r": ("done", ("new",)), "a.q": ("done", ("new",))}
        for most, things, how, waits in [(0, {}, {}, {}), (1, {}, {}, {"a.r": "a.q"}), (2, {}, {}, {"a.r": "a.q"}),
                                         (3, {"a.s": ("made", 5), "a.q": ("made", 50)}, {"a.q": ("done", ("new",))}, {})]:
            report = chain_forge().make(None, most)
            self.assertEqual(fields(report), (things, how, waits, most, True, {"a.r": None}))
        for most in (4, 5, 3000):
            self.assertEqual(fields(chain_forge().make(None, most)), (whole, hows, {}, 4, False, {"a.r": ("made", 51)}))

    def test_kept_and_laid(self):
        forge = chain_forge()
        forge.make(None, 2)
        self.assertEqual((forge.book.papers, forge.shelf.lying()), ({}, []))
        forge.make(None, 3)
        self.assertEqual((forge.book.papers, forge.shelf.lying()), ({"a.q": Q5}, [("abe", Q5)]))

    def test_gone_on_with(self):
        forge = chain_forge()
        forge.make(None, 3)
        report = forge.make()
        self.assertEqual(report.how, {"a.q": ("left",), "a.r": ("done", ("new",))})
        self.assertEqual(forge.shelf.lying(), [("abe", Q5), ("abe", R50)])
        forge = chain_forge()
        forge.make(None, 3)
        forge.house.put("a.s", 6)
        self.assertEqual(forge.make().how, {"a.q": ("done", ("look", 0, "a.s", ("made", 5), ("made", 6))), "a.r": ("done", ("new",))})

    def test_papers_that_were_kept_stay(self):
        forge = chain_forge()
        forge.make()
        forge.house.put("a.s", 6)
        report = forge.make(None, 0)
        self.assertEqual((report.how, report.told), ({}, {"a.r": None}))
        self.assertEqual(forge.book.papers, {"a.r": R50, "a.q": Q5})
        self.assertEqual(len(forge.shelf.lying()), 2)

    def test_told_of_sources_and_nothing(self):
        forge = forge_with(house_of({"a.s": 5, "a.t": 6}, {"a.r": '(look "a.s")'}, [], ["a.t", "a.r", "n.n"]))
        report = forge.make(None, 0)
        self.assertEqual(report.told, {"a.t": ("made", 6), "a.r": None, "n.n": ("wrong", "none", "n.n")})
        self.assertEqual(report.things, {"a.t": ("made", 6)})

    def test_rings_are_not_told_as_yet(self):
        forge = forge_with(house_of({}, {"a.p": '(look "a.q")', "a.q": '(look "a.p")', "a.z": '(look "n.n")'}, [], ["a.p", "a.z"]))
        report = forge.make(None, 2)
        self.assertEqual((report.waits, report.stopped, report.told), ({"a.p": "a.q"}, True, {"a.p": None, "a.z": None}))
        report = forge.make([0, 1], 2)
        self.assertEqual((report.waits, report.stopped, report.told),
                         ({"a.p": "a.q", "a.q": "a.p"}, True, {"a.p": None, "a.z": None}))
        report = forge.make([0, 1])
        self.assertEqual((report.waits, report.stopped), ({"a.p": "a.q", "a.q": "a.p"}, False))
        self.assertEqual(report.told, {"a.p": ("ring", ("a.p", "a.q", "a.p")), "a.z": ("wrong", "shut", "n.n")})


class Reports(unittest.TestCase):
    def test_all_sorts(self):
        rules = {"a.r": '(+ (look "a.s") 1)', "a.w": '(cry 3)', "a.p": '(look "a.q")', "a.q": '(look "a.q")', "a.z": "1"}
        report = forge_with(house_of({"a.s": 5, "a.t": 6}, rules, [], ["a.r", "a.w", "a.p", "n.n", "a.t"])).make()
        self.assertEqual(report.told, {"a.r": ("made", 6), "a.w": ("wrong", "cried", 3), "a.p": ("ring", ("a.p", "a.q", "a.q")),
                                       "n.n": ("wrong", "none", "n.n"), "a.t": ("made", 6)})
        self.assertEqual(report.things, {"a.s": ("made", 5), "a.t": ("made", 6), "a.r": ("made", 6), "a.w": ("wrong", "cried", 3)})
        self.assertEqual(report.how, {"a.r": ("done", ("new",)), "a.w": ("done", ("new",))})
        self.assertEqual(report.waits, {"a.p": "a.q", "a.q": "a.q"})
        self.assertIs(report.stopped, False)
        self.assertEqual([type(field) for field in fields(report)], [dict, dict, dict, int, bool, dict])

    def test_rings_are_not_kept(self):
        forge = forge_with(house_of({}, {"a.p": '(look "a.q")', "a.q": '(look "a.p")', "a.r": "1"}, [], ["a.p", "a.r"]))
        forge.make()
        self.assertEqual((forge.book.papers, forge.shelf.lying()), ({"a.r": paper("1")}, [("abe", paper("1"))]))

    def test_the_askers_own(self):
        forge = forge_with(house_of({"a.s": 5}, {**CHAIN, "a.w": '(look "a.w")'}, [], ["a.r", "a.w"]))
        forge.make()
        report = forge.make()
        kept = copy.deepcopy(fields(report))
        for spoilt in fields(forge.make())[:3]:
            spoilt["a.s"] = ("made", "spoilt")
            spoilt.pop("a.r", None)
        forge.make().told.clear()
        self.assertEqual(fields(report), kept)
        self.assertEqual(fields(forge.make()), kept)
        forge.house.put("a.s", 8)
        forge.make()
        self.assertEqual(fields(report), kept)

    def test_as_the_making_tells_it(self):
        for seed in range(300):
            chance = random.Random(seed)
            house = chance_house(chance)
            forge = forge_with(house)
            for most in (chance.randrange(12), None):
                picks = [chance.randrange(9) for _ in range(chance.randrange(20))]
                making = Making(forge.house, forge.book, forge.shelf)
                making.go(picks, most)
                report = forge.make(picks, most)
                self.assertEqual((report.things, report.waits), (making.told_things(), making.waiting()))
                self.assertEqual((report.steps, report.stopped), (making.steps, making.ready() != []))
                self.assertEqual(report.how, {name: task.how for name, task in making.tasks.items() if task.how is not None})
            self.assertEqual(report.told, told(house, *plain(house)))

    def test_the_same_again(self):
        for seed in range(60):
            house = chance_house(random.Random(seed))
            one, other = forge_with(house), forge_with(house)
            self.assertEqual(fields(one.make([3, 1, 4], 7)), fields(other.make([3, 1, 4], 7)))
            self.assertEqual(fields(one.make([1, 5])), fields(other.make([1, 5])))
            self.assertEqual((one.book.papers, one.shelf.lying()), (other.book.papers, other.shelf.lying()))


if __name__ == "__main__":
    unittest.main()
