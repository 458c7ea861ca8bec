import copy
import random
import unittest

from leastforge.errors import NoStep
from leastforge.formtexts import read_rule
from leastforge.house import House
from leastforge.making import Making
from leastforge.papers import is_right
from leastforge.plain import plain
from leastforge.shelf import Shelf
from leastforge.tasks import Task
from tests.reference import KIND, PlainMaking
from tests.samples import book_of, chance_house, chance_laid, chance_paper, house_of, paper, shelf_of

CHAIN = {"a.r": '(+ (look "a.q") 1)', "a.q": '(* (look "a.s") 10)'}


def making_of(house, papers=None, rows=()):
    return Making(house, book_of(papers or {}), shelf_of(rows))


def states(house, book, shelf):
    return copy.deepcopy((house.sources, house.rules, house.opened, house.wishes, book.papers, shelf.lying()))


class Tasks(unittest.TestCase):
    def test_at_first(self):
        house = house_of({"a.s": 1}, {**CHAIN, "b.r": "1", "b.q": "2"}, [], ["b.r", "a.s", "n.n", "a.r"])
        making = making_of(house)
        self.assertEqual(list(making.tasks), ["b.r", "a.r"])
        self.assertTrue(all(isinstance(task, Task) for task in making.tasks.values()))
        self.assertEqual([task.name for task in making.tasks.values()], ["b.r", "a.r"])
        self.assertEqual(making.steps, 0)
        self.assertEqual(making.ready(), ["b.r", "a.r"])
        self.assertEqual((making.told_things(), making.waiting()), ({"a.s": ("made", 1)}, {}))

    def test_nothing_wished(self):
        for house in (House(), house_of({"a.s": 1}, CHAIN, ["a.s"])):
            making = making_of(house)
            self.assertEqual((making.tasks, making.ready(), making.told_things(), making.waiting()), ({}, [], {}, {}))
            self.assertEqual(making.go(), 0)
            self.assertEqual(making.steps, 0)

    def test_wished_sources_and_names_of_nothing(self):
        making = making_of(house_of({"a.s": 1, "a.t": 2}, {}, ["n.open"], ["a.s", "n.n", "n.open"]))
        self.assertEqual((making.tasks, making.ready(), making.told_things(), making.waiting()),
                         ({}, [], {"a.s": ("made", 1)}, {}))

    def test_the_order_of_the_wishes(self):
        rules = {name: "1" for name in ("a.a", "a.b", "a.c", "b.a")}
        making = making_of(house_of({}, rules, [], ["b.a", "a.c", "a.a", "a.b"]))
        self.assertEqual(list(making.tasks), ["b.a", "a.c", "a.a", "a.b"])

    def test_step_by_step(self):
        making = making_of(house_of({"a.s": 5}, CHAIN, [], ["a.r"]))
        self.assertEqual(making.step(), "a.r")
        # It needs a rule, which is begun behind it.
        self.assertEqual(list(making.tasks), ["a.r", "a.q"])
        self.assertEqual((making.ready(), making.waiting(), making.told_things()), (["a.q"], {"a.r": "a.q"}, {}))
        self.assertEqual(making.step(), "a.q")
        # The source is needed, but wasn't taken as yet.
        self.assertEqual((making.ready(), making.waiting(), making.told_things()), (["a.q"], {"a.r": "a.q"}, {}))
        self.assertEqual(making.tasks["a.q"].needs, "a.s")
        self.assertEqual(making.step(), "a.q")
        self.assertEqual(making.told_things(), {"a.s": ("made", 5), "a.q": ("made", 50)})
        self.assertEqual((making.ready(), making.waiting(), making.steps), (["a.r"], {}, 3))
        self.assertEqual(making.step(), "a.r")
        self.assertEqual(making.told_things(), {"a.s": ("made", 5), "a.q": ("made", 50), "a.r": ("made", 51)})
        self.assertEqual((making.ready(), making.waiting(), making.steps), ([], {}, 4))
        self.assertEqual(making.tasks["a.r"].paper, paper(CHAIN["a.r"], ("made", 50)))
        self.assertEqual(making.tasks["a.r"].how, ("done", ("new",)))

    def test_one_is_begun_once(self):
        rules = {"a.p": '(list (look "a.r") (look "a.q"))', "a.q": '(look "a.r")', "a.r": '(look "a.s")', "a.o": '(look "a.r")'}
        making = making_of(house_of({"a.s": 5}, rules, [], ["a.p", "a.q", "a.o"]))
        making.go()
        self.assertEqual(list(making.tasks), ["a.p", "a.q", "a.o", "a.r"])
        self.assertEqual(making.steps, 9)

    def test_rules_that_nobody_needs(self):
        making = making_of(house_of({"a.s": 0}, {"a.r": '(if (look "a.s") (look "a.p") 1)', "a.p": "1", "a.z": "1"}, [], ["a.r"]))
        making.go()
        self.assertEqual(list(making.tasks), ["a.r"])

    def test_shut_ones_are_not_begun(self):
        rules = {"a.r": '(else (look "b.q") 1)', "b.q": "2", "b.p": '(look "b.q")'}
        making = making_of(house_of({}, rules, [], ["a.r"]))
        self.assertEqual(making.go(), 2)
        self.assertEqual(list(making.tasks), ["a.r"])
        self.assertEqual(making.told_things(), {"a.r": ("made", 1)})
        self.assertEqual(making.tasks["a.r"].founds, [("wrong", "shut", "b.q")])
        making = making_of(house_of({}, rules, [], ["a.r", "b.p"]))
        making.go()
        self.assertEqual(making.told_things(), {"a.r": ("made", 1), "b.p": ("made", 2), "b.q": ("made", 2)})
        self.assertEqual(making.tasks["a.r"].founds, [("wrong", "shut", "b.q")])
        making = making_of(house_of({}, rules, ["b.q"], ["a.r"]))
        making.go()
        self.assertEqual(making.told_things(), {"a.r": ("made", 2), "b.q": ("made", 2)})

    def test_a_shut_source_is_not_told(self):
        making = making_of(house_of({"b.s": 5}, {"a.r": '(else (look "b.s") 1)'}, [], ["a.r"]))
        making.go()
        self.assertEqual(making.told_things(), {"a.r": ("made", 1)})

    def test_none_and_no_names(self):
        for text in ("a.none", "n.open", "no name", "", "a.b.c"):
            making = making_of(house_of({}, {"a.r": f'(look "{text}")'}, ["n.open"], ["a.r"]))
            making.step()
            self.assertEqual((making.ready(), making.waiting(), making.tasks["a.r"].needs), (["a.r"], {}, text))
            making.step()
            self.assertEqual(making.told_things(), {"a.r": ("wrong", "none", text)})
        self.assertEqual((making.steps, making.waiting()), (2, {}))


class Steps(unittest.TestCase):
    def setUp(self):
        self.house = house_of({}, {name: '(else (look "n.n") 1)' for name in ("a.a", "a.b", "a.c")}, [], ["a.b", "a.a", "a.c"])

    def test_the_first_by_itself(self):
        making = making_of(self.house)
        self.assertEqual([making.step() for _ in range(6)], ["a.b", "a.b", "a.a", "a.a", "a.c", "a.c"])

    def test_picks(self):
        making = making_of(self.house)
        self.assertEqual([making.step(pick) for pick in (2, 0, 1, 2)], ["a.c", "a.b", "a.a", "a.c"])
        self.assertEqual(making.ready(), ["a.b", "a.a"])
        self.assertEqual(making.step(1), "a.a")
        self.assertEqual(making.step(7), "a.b")
        self.assertEqual((making.ready(), making.steps), ([], 6))

    def test_picks_beyond_how_many_are_ready(self):
        for pick, name in [(3, "a.b"), (4, "a.a"), (5, "a.c"), (300, "a.b"), (10 ** 30 + 1, "a.c")]:
            making = making_of(self.house)
            self.assertEqual(making.step(pick), name)

    def test_ready_in_the_order_of_beginning(self):
        rules = {"a.c": '(look "a.b")', "a.b": '(look "a.a")', "a.a": '(look "n.n")', "a.d": '(look "n.n")'}
        making = making_of(house_of({}, rules, [], ["a.c", "a.d"]))
        making.step(0)
        self.assertEqual(making.ready(), ["a.d", "a.b"])
        making.step(1)
        self.assertEqual(making.ready(), ["a.d", "a.a"])
        self.assertEqual(making.waiting(), {"a.c": "a.b", "a.b": "a.a"})

    def test_none_is_ready(self):
        for house in (House(), self.house, house_of({}, {"a.r": '(look "a.r")'}, [], ["a.r"])):
            making = making_of(house)
            making.go()
            before = (making.steps, making.told_things(), making.waiting(), list(making.tasks), making.ready())
            for pick in (0, 1, 7):
                with self.assertRaises(NoStep):
                    making.step(pick)
            with self.assertRaises(NoStep):
                making.step()
            self.assertEqual((making.steps, making.told_things(), making.waiting(), list(making.tasks), making.ready()), before)
            self.assertEqual(making.go(), 0)
            self.assertEqual(making.go([1, 2], 5), 0)

    def test_go(self):
        making = making_of(self.house)
        self.assertEqual(making.go(), 6)
        self.assertEqual((making.steps, making.ready()), (6, []))

    def test_go_with_most(self):
        for most, did in [(0, 0), (1, 1), (5, 5), (6, 6), (7, 6), (3000, 6)]:
            making = making_of(self.house)
            self.assertEqual(making.go(None, most), did)
            self.assertEqual(making.steps, did)
            self.assertEqual(making.go(None, 0), 0)
            self.assertEqual(making.go(), 6 - did)
            self.assertEqual(making.steps, 6)

    def test_go_with_picks(self):
        making = making_of(self.house)
        picks = [2, 2, 1]
        self.assertEqual(making.go(picks, 3), 3)
        self.assertEqual(picks, [2, 2, 1])
        self.assertEqual(making.told_things(), {"a.c": ("made", 1)})
        self.assertEqual((making.tasks["a.a"].needs, making.tasks["a.b"].needs), ("n.n", None))
        # Where no pick is left, the first makes a step.
        making = making_of(self.house)
        self.assertEqual(making.go([2], 3), 3)
        self.assertEqual(making.told_things(), {"a.b": ("made", 1)})
        self.assertEqual(making.tasks["a.c"].needs, "n.n")

    def test_picks_are_used_from_the_first_by_each_call(self):
        making = making_of(self.house)
        picks = [2, 1, 2, 0]
        self.assertEqual(making.go(picks, 2), 2)
        self.assertEqual([making.tasks[name].needs for name in ("a.a", "a.b", "a.c")], ["n.n", None, "n.n"])
        self.assertEqual(making.go(picks, 1), 1)
        self.assertEqual(making.told_things(), {"a.c": ("made", 1)})

    def test_more_picks_than_steps(self):
        making = making_of(self.house)
        self.assertEqual(making.go(list(range(400))), 6)
        making = making_of(self.house)
        self.assertEqual(making.go(list(range(400)), 4), 4)
        self.assertEqual(making.go([], None), 2)


class Rings(unittest.TestCase):
    def over(self, house, things, waits):
        making = making_of(house)
        making.go()
        self.assertEqual((making.told_things(), making.waiting(), making.ready()), (things, waits, []))
        self.assertEqual(plain(house), (things, waits))
        for name in waits:
            self.assertEqual((making.tasks[name].paper, making.tasks[name].how), (None, None))

    def test_rings(self):
        self.over(house_of({}, {"a.r": '(look "a.r")'}, [], ["a.r"]), {}, {"a.r": "a.r"})
        self.over(house_of({}, {"a.p": '(look "a.q")', "a.q": '(else (look "a.p") 1)'}, [], ["a.p"]), {},
                  {"a.p": "a.q", "a.q": "a.p"})

    def test_those_that_wait_for_one(self):
        rules = {"a.o": '(list (look "a.s") (look "a.n") (look "a.p"))', "a.p": '(look "a.p")', "a.n": "7", "a.m": '(look "a.n")'}
        self.over(house_of({"a.s": 3}, rules, [], ["a.o", "a.m"]),
                  {"a.s": ("made", 3), "a.n": ("made", 7), "a.m": ("made", 7)}, {"a.o": "a.p", "a.p": "a.p"})

    def test_a_book_of_the_time_ahead_of_the_ring(self):
        house = house_of({}, {"a.r": '(look "a.q")', "a.q": '(look "a.r")'}, [], ["a.r"])
        making = making_of(house, {"a.r": paper('(look "a.q")', ("made", 1))}, [("abe", paper('(look "a.r")', ("made", 1)))])
        making.go()
        self.assertEqual((making.told_things(), making.waiting()), ({}, {"a.r": "a.q", "a.q": "a.r"}))


class Papers(unittest.TestCase):
    def hows(self, house, papers, rows, hows):
        making = making_of(house, papers, rows)
        making.go()
        self.assertEqual({name: task.how for name, task in making.tasks.items()}, hows)
        self.assertEqual((making.told_things(), making.waiting()), plain(house))
        return making

    def test_left(self):
        house = house_of({"a.s": 5}, CHAIN, [], ["a.r"])
        kept = {"a.r": paper(CHAIN["a.r"], ("made", 50)), "a.q": paper(CHAIN["a.q"], ("made", 5))}
        making = self.hows(house, kept, [], {"a.r": ("left",), "a.q": ("left",)})
        self.assertEqual({name: task.paper for name, task in making.tasks.items()}, kept)
        self.assertEqual(making.steps, 4)

    def test_left_above_one_that_was_done_to_the_same(self):
        rules = {"a.r": '(+ (look "a.q") 1)', "a.q": '(* (look "a.s") 0)'}
        kept = {"a.r": paper(rules["a.r"], ("made", 0)), "a.q": paper(rules["a.q"], ("made", 5))}
        self.hows(house_of({"a.s": 6}, rules, [], ["a.r"]), kept, [],
                  {"a.r": ("left",), "a.q": ("done", ("look", 0, "a.s", ("made", 5), ("made", 6)))})

    def test_done_with_each_reason(self):
        house = house_of({"a.s": 6}, {**CHAIN, "a.n": "1"}, [], ["a.r", "a.n"])
        kept = {"a.r": paper("1"), "a.q": paper(CHAIN["a.q"], ("made", 5)), "a.z": paper("1")}
        self.hows(house, kept, [], {"a.r": ("done", ("rule",)), "a.n": ("done", ("new",)),
                                   "a.q": ("done", ("look", 0, "a.s", ("made", 5), ("made", 6)))})

    def test_taken(self):
        house = house_of({"a.s": 6}, CHAIN, [], ["a.r"])
        rows = [("liar", None), ("liar", paper(CHAIN["a.q"], ("made", 6))[:2] + (paper("1")[2],)), ("abe", paper("1")),
                ("bob", paper(CHAIN["a.q"], ("made", 7))), ("zoe", paper(CHAIN["a.q"], ("made", 6))),
                ("abe", paper(CHAIN["a.q"], ("made", 6)))]
        self.hows(house, {}, rows, {"a.r": ("done", ("new",)), "a.q": ("taken", "zoe")})

    def test_another_names_paper_on_the_shelf(self):
        # What lies on the shelf is of a rule, not of a name.
        house = house_of({"b.s": 6}, {"b.x": '(look "b.s")', "b.y": '(look "b.s")'}, [], ["b.x", "b.y"])
        row = ("abe", paper('(look "b.s")', ("made", 6)))
        self.hows(house, {"b.x": paper('(look "b.s")', ("made", 6))}, [], {"b.x": ("left",), "b.y": ("done", ("new",))})
        self.hows(house, {}, [row], {"b.x": ("taken", "abe"), "b.y": ("taken", "abe")})
        self.hows(house, {}, [], {"b.x": ("done", ("new",)), "b.y": ("done", ("new",))})

    def test_a_thousand_rows(self):
        looks = " ".join(['(look "a.s")'] * 8)
        text = f"(each x (lit (1 2 3 4 5 6 7 8 9 10)) (list {looks}))"
        house = house_of({"a.s": 6}, {f"a.r{n}": text for n in range(12)}, [], [f"a.r{n}" for n in range(12)])
        rows = [(f"n{n}", paper(text, *[("made", 6)] * (n % 80), KIND)) for n in range(999)]
        rows.append(("abe", paper(text, *[("made", 6)] * 80)))
        making = making_of(house, {}, rows)
        self.assertEqual(making.go(), 12 * 81)
        self.assertEqual([task.how for task in making.tasks.values()], [("taken", "abe")] * 12)


class OwnCopies(unittest.TestCase):
    def test_what_is_done_behind_the_beginning(self):
        for steps in range(5):
            house = house_of({"a.s": 5}, CHAIN, [], ["a.r"])
            book = book_of({"a.q": paper(CHAIN["a.q"], ("made", 5))})
            shelf = shelf_of([("abe", paper(CHAIN["a.r"], ("made", 50)))])
            making = Making(house, book, shelf)
            making.go(None, steps)
            house.put("a.s", 6)
            house.put_rule("a.r", read_rule("1"))
            house.put("a.q", 1)
            house.let_go("a.r")
            house.wish("a.q")
            house.drop("a.s")
            book.keep("a.q", paper("1"))
            shelf.lay("zoe", paper(CHAIN["a.q"], ("made", 5)))
            making.go()
            self.assertEqual(making.told_things(), {"a.s": ("made", 5), "a.q": ("made", 50), "a.r": ("made", 51)})
            self.assertEqual({name: task.how for name, task in making.tasks.items()}, {"a.r": ("taken", "abe"), "a.q": ("left",)})

    def test_what_is_laid_and_kept_ahead_of_a_later_task(self):
        house = house_of({"a.s": 5}, CHAIN, [], ["a.r"])
        for steps in range(3):
            book, shelf = book_of({}), shelf_of([])
            making = Making(house, book, shelf)
            making.go(None, steps)
            shelf.lay("zoe", paper(CHAIN["a.q"], ("made", 5)))
            shelf.lay("zoe", paper(CHAIN["a.r"], ("made", 50)))
            making.go()
            self.assertEqual({name: task.how for name, task in making.tasks.items()},
                             {"a.r": ("done", ("new",)), "a.q": ("done", ("new",))})
            making = Making(house, book, Shelf())
            making.go(None, steps)
            book.keep("a.q", paper(CHAIN["a.q"], ("made", 5)))
            making.go()
            self.assertEqual(making.tasks["a.q"].how, ("done", ("new",)))

    def test_it_changes_nothing_of_them(self):
        for seed in range(100):
            chance = random.Random(seed)
            house = chance_house(chance)
            shelf = shelf_of([("abe", chance_laid(chance, house)) for _ in range(5)])
            book = book_of({"a.t0": paper("1")})
            before = states(house, book, shelf)
            making = Making(house, book, shelf)
            making.go([chance.randrange(9) for _ in range(20)])
            making.told_things()
            self.assertEqual(states(house, book, shelf), before)

    def test_what_is_given_is_the_askers_own(self):
        making = making_of(house_of({"a.s": 5}, {**CHAIN, "a.w": '(look "a.w")'}, [], ["a.r", "a.w"]))
        for _ in range(3):
            asked = (making.ready(), making.told_things(), making.waiting())
            kept = copy.deepcopy(asked)
            asked[0].append("a.x")
            asked[1]["a.s"] = ("made", "spoilt")
            asked[1]["a.q"] = ("made", "spoilt")
            asked[2].clear()
            asked[2]["a.x"] = "a.y"
            self.assertEqual((making.ready(), making.told_things(), making.waiting()), kept)
            making.go(None, 2)
        making.go()
        self.assertEqual(making.told_things(), {"a.s": ("made", 5), "a.q": ("made", 50), "a.r": ("made", 51)})


class Whole(unittest.TestCase):
    def stands_as(self, making, other):
        self.assertEqual(making.ready(), other.ready())
        self.assertEqual(making.waiting(), other.waiting())
        self.assertEqual(making.told_things(), other.things)
        self.assertEqual(making.steps, other.steps)
        self.assertEqual(list(making.tasks), list(other.tasks))
        for name, task in making.tasks.items():
            self.assertEqual((task.needs, task.founds, task.paper, task.how),
                             tuple(other.tasks[name][field] for field in ("needs", "founds", "paper", "how")))

    def chance_world(self, chance):
        """A house, with papers and rows of which some are right, some fit, and some do neither."""
        house = chance_house(chance)
        papers = {}
        for _ in range(chance.choice([0, 3, 8])):
            right = chance_paper(chance, house)
            if right is not None:
                names = [name for name in house.rules if house.rules[name] == right[0]]
                papers[chance.choice(names * 3 + sorted(house.rules))] = right
        rows = [(chance.choice(["abe", "zoe"]), chance_laid(chance, house)) for _ in range(chance.choice([0, 0, 6, 12]))]
        return house, papers, rows

    def test_each_step_by_chance(self):
        seen = {}
        for seed in range(600):
            chance = random.Random(seed)
            house, papers, rows = self.chance_world(chance)
            making = making_of(house, papers, rows)
            other = PlainMaking(house, papers, rows)
            while other.ready():
                pick = chance.randrange(12)
                self.assertEqual(making.step(pick), other.step(pick))
                self.stands_as(making, other)
            for task in making.tasks.values():
                if task.how is not None:
                    word = task.how[1][0] if task.how[0] == "done" else task.how[0]
                    seen[word] = seen.get(word, 0) + 1
        self.assertEqual(sorted(seen), ["left", "look", "new", "rule", "taken"])
        self.assertGreater(min(seen.values()), 25, seen)

    def test_beside_the_plain_maker(self):
        for seed in range(1200):
            chance = random.Random(seed)
            house, papers, rows = self.chance_world(chance)
            expected = plain(house)
            for _ in range(3):
                making = making_of(house, papers, rows)
                making.go([chance.randrange(chance.choice([3, 100])) for _ in range(chance.randrange(60))])
                self.assertEqual((making.told_things(), making.waiting()), expected)
                for task in making.tasks.values():
                    self.assertTrue(task.paper is None or is_right(task.paper))

    def test_picks_change_nothing_but_the_order(self):
        for seed in range(200):
            chance = random.Random(seed)
            house, papers, rows = self.chance_world(chance)
            ended = []
            for _ in range(5):
                making = making_of(house, papers, rows)
                steps = making.go([chance.randrange(50) for _ in range(chance.randrange(80))])
                ended.append((steps, {name: (task.paper, task.how, task.needs, task.founds) for name, task in making.tasks.items()}))
            self.assertTrue(all(one == ended[0] for one in ended))

    def test_go_as_steps(self):
        for seed in range(150):
            chance = random.Random(seed)
            house, papers, rows = self.chance_world(chance)
            making = making_of(house, papers, rows)
            other = PlainMaking(house, papers, rows)
            for _ in range(4):
                picks = [chance.randrange(30) for _ in range(chance.randrange(8))]
                most = chance.choice([0, 1, 2, 5, None])
                self.assertEqual(making.go(picks, most), len(other.go(picks, most)))
                self.stands_as(making, other)

    def test_a_making_of_three_thousand_steps(self):
        names = " ".join(['"a.s"'] * 9)
        text = f"(each x (lit ({names})) (list " + "(look x) " * 8 + '))'
        house = house_of({"a.s": 5}, {f"a.r{n}": text for n in range(39)}, [], [f"a.r{n}" for n in range(20)])
        for n in range(19):
            house.put_rule(f"a.r{n}", read_rule(f'(list (look "a.r{n + 20}") {text})'))
        making = making_of(house)
        picks = [(n * n) % 41 for n in range(400)]
        self.assertEqual(making.go(picks, 1500), 1500)
        self.assertEqual(making.go(picks), 19 * 74 + 20 * 73 - 1500)
        self.assertEqual((making.told_things(), making.waiting()), plain(house))
        made = {name: task.paper for name, task in making.tasks.items()}
        again = making_of(house, made)
        again.go()
        self.assertEqual([task.how for task in again.tasks.values()], [("left",)] * 39)

    def test_the_same_again(self):
        for seed in range(60):
            house, papers, rows = self.chance_world(random.Random(seed))
            making = making_of(house, papers, rows)
            making.go(None, 5)
            first = (making.ready(), making.told_things(), making.waiting())
            making_of(house).go()
            self.assertEqual((making.waiting(), making.told_things(), making.ready()), first[::-1])
            other = making_of(house, papers, rows)
            other.go(None, 5)
            self.assertEqual((other.ready(), other.told_things(), other.waiting()), first)


if __name__ == "__main__":
    unittest.main()
