import copy
import random
import unittest

from leastforge.formtexts import read_rule
from leastforge.house import House
from leastforge.plain import plain
from leastforge.rings import ring_way, told
from tests.samples import chance_house


class Ways(unittest.TestCase):
    def goes(self, waits, name, way):
        kept = dict(waits)
        self.assertEqual(ring_way(waits, name), way)
        self.assertIs(type(ring_way(waits, name)), list)
        self.assertEqual(waits, kept)

    def test_a_ring_of_one(self):
        self.goes({"a.a": "a.a"}, "a.a", ["a.a", "a.a"])

    def test_a_ring_of_several(self):
        two = {"a.a": "a.b", "a.b": "a.a"}
        self.goes(two, "a.a", ["a.a", "a.b", "a.a"])
        self.goes(two, "a.b", ["a.b", "a.a", "a.b"])
        three = {"a.a": "b.b", "b.b": "c.c", "c.c": "a.a"}
        self.goes(three, "a.a", ["a.a", "b.b", "c.c", "a.a"])
        self.goes(three, "c.c", ["c.c", "a.a", "b.b", "c.c"])
        names = [f"a.r{n}" for n in range(40)]
        self.goes({name: names[(n + 1) % 40] for n, name in enumerate(names)}, "a.r3", names[3:] + names[:4])

    def test_one_that_waits_for_a_ring(self):
        waits = {"a.x": "a.a", "a.y": "a.x", "a.a": "a.b", "a.b": "a.a", "a.z": "a.z", "a.w": "a.z"}
        self.goes(waits, "a.x", ["a.x", "a.a", "a.b", "a.a"])
        self.goes(waits, "a.y", ["a.y", "a.x", "a.a", "a.b", "a.a"])
        self.goes(waits, "a.b", ["a.b", "a.a", "a.b"])
        self.goes(waits, "a.w", ["a.w", "a.z", "a.z"])

    def test_the_list_is_a_new_one(self):
        waits = {"a.a": "a.b", "a.b": "a.a"}
        first = ring_way(waits, "a.a")
        first.append("spoilt")
        first[0] = "spoilt"
        self.assertEqual(ring_way(waits, "a.a"), ["a.a", "a.b", "a.a"])
        self.assertIsNot(ring_way(waits, "a.a"), ring_way(waits, "a.a"))

    def test_by_what_plain_tells(self):
        seen = 0
        for seed in range(600):
            waits = plain(chance_house(random.Random(seed)))[1]
            for name in waits:
                way = ring_way(waits, name)
                self.assertEqual(way[0], name)
                self.assertEqual([waits[one] for one in way[:-1]], way[1:])
                self.assertEqual(len(set(way[:-1])), len(way) - 1)
                self.assertIn(way[-1], way[:-1])
                seen += 1
        self.assertGreater(seen, 200)


class Told(unittest.TestCase):
    def setUp(self):
        self.house = House()
        self.house.put("a.s", (1, 2))
        self.house.put("b.s", 5)
        for name, text in [("a.r", '(look "a.s")'), ("b.r", '(cry 1)'), ("c.p", '(look "c.q")'), ("c.q", '(look "c.p")'),
                           ("c.o", '(look "c.p")'), ("c.self", '(look "c.self")')]:
            self.house.put_rule(name, read_rule(text))

    def tells(self, wishes, answers, outcomes=None, waits=None):
        for name in wishes:
            self.house.wish(name)
        made = plain(self.house)
        outcomes = made[0] if outcomes is None else outcomes
        waits = made[1] if waits is None else waits
        kept = copy.deepcopy((outcomes, waits, self.house.sources, self.house.rules, self.house.opened, self.house.wishes))
        found = told(self.house, outcomes, waits)
        self.assertEqual(found, answers)
        self.assertEqual(repr(sorted(found.items())), repr(sorted(answers.items())))
        self.assertIs(type(found), dict)
        self.assertEqual((outcomes, waits, self.house.sources, self.house.rules, self.house.opened, self.house.wishes), kept)

    def test_no_wishes(self):
        self.tells([], {})
        self.tells([], {}, {"a.r": ("made", 1)}, {"c.p": "c.p"})

    def test_sources(self):
        self.tells(["a.s", "b.s"], {"a.s": ("made", (1, 2)), "b.s": ("made", 5)})

    def test_sources_that_are_not_in_outcomes(self):
        self.tells(["a.s"], {"a.s": ("made", (1, 2))}, {}, {})

    def test_rules_with_an_outcome(self):
        self.tells(["a.r", "b.r"], {"a.r": ("made", (1, 2)), "b.r": ("wrong", "cried", 1)})
        self.tells([], {"a.r": ("made", 7), "b.r": ("made", 8)}, {"a.r": ("made", 7), "b.r": ("made", 8)}, {})

    def test_names_of_nothing(self):
        self.house.open_up("n.open")
        self.tells(["n.n", "n.open", "a.nothing"],
                   {"n.n": ("wrong", "none", "n.n"), "n.open": ("wrong", "none", "n.open"),
                    "a.nothing": ("wrong", "none", "a.nothing")})
        self.tells(["n.n"], {"n.n": ("wrong", "none", "n.n"), "n.open": ("wrong", "none", "n.open"),
                             "a.nothing": ("wrong", "none", "a.nothing")}, {"n.n": ("made", 1)}, {})

    def test_rules_that_wait(self):
        self.tells(["c.p", "c.o", "c.self"], {"c.p": ("ring", ("c.p", "c.q", "c.p")), "c.o": ("ring", ("c.o", "c.p", "c.q", "c.p")),
                                             "c.self": ("ring", ("c.self", "c.self"))})

    def test_rules_in_neither(self):
        self.tells(["a.r", "c.p"], {"a.r": None, "c.p": None}, {}, {})
        self.tells(["b.r"], {"a.r": None, "c.p": None, "b.r": ("made", 3)}, {"b.r": ("made", 3)}, {"c.self": "c.self"})

    def test_all_at_once(self):
        self.tells(["c.q", "a.s", "n.n", "a.r"],
                   {"c.q": ("ring", ("c.q", "c.p", "c.q")), "a.s": ("made", (1, 2)), "n.n": ("wrong", "none", "n.n"),
                    "a.r": ("made", (1, 2))})

    def test_wishes_of_other_rooms(self):
        # Nothing of these rooms is opened, yet a hand finds it.
        self.tells(["a.s", "b.s", "a.r", "b.r", "d.d"],
                   {"a.s": ("made", (1, 2)), "b.s": ("made", 5), "a.r": ("made", (1, 2)), "b.r": ("wrong", "cried", 1),
                    "d.d": ("wrong", "none", "d.d")})

    def test_what_is_given_is_the_askers_own(self):
        self.house.wish("a.s")
        self.house.wish("c.p")
        made = plain(self.house)
        first = told(self.house, made[0], made[1])
        kept = dict(first)
        first["a.s"] = "spoilt"
        first.pop("c.p")
        self.assertEqual(told(self.house, made[0], made[1]), kept)

    def test_by_chance(self):
        for seed in range(400):
            house = chance_house(random.Random(seed))
            outcomes, waits = plain(house)
            found = told(house, outcomes, waits)
            self.assertEqual(list(found), house.wishes)
            for wish, answer in found.items():
                if wish in waits:
                    self.assertEqual(answer, ("ring", tuple(ring_way(waits, wish))))
                else:
                    self.assertEqual(answer, outcomes.get(wish, ("wrong", "none", wish)))
            self.assertEqual(told(house, outcomes, waits), found)


if __name__ == "__main__":
    unittest.main()
