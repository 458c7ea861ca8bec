import copy
import random
import unittest

from leastforge.formtexts import read_rule
from leastforge.house import House
from leastforge.plain import plain
from leastforge.rings import told
from tests.reference import KIND, NOUGHT, plainly_made
from tests.samples import chance_house, house_of


def fields(house):
    return copy.deepcopy((house.sources, house.rules, house.opened, house.wishes))


class Made(unittest.TestCase):
    def makes(self, house, outcomes, waits=None):
        kept = fields(house)
        found = plain(house)
        self.assertIs(type(found), tuple)
        self.assertEqual(found, (outcomes, waits or {}))
        self.assertEqual([type(part) for part in found], [dict, dict])
        self.assertEqual(repr(sorted(found[0].items())), repr(sorted(outcomes.items())))
        self.assertEqual(fields(house), kept)
        self.assertEqual(plainly_made(house), found)
        wishes = house.wishes[::-1]
        for name in list(house.wishes):
            house.let_go(name)
        for name in wishes:
            house.wish(name)
        self.assertEqual(plain(house), found)


class WithoutRings(Made):
    def test_nothing_wished(self):
        self.makes(House(), {})
        self.makes(house_of({"a.s": 1}, {"a.r": '(look "a.s")', "a.w": '(look "a.w")'}, ["a.s"]), {})

    def test_wished_sources(self):
        self.makes(house_of({"a.s": 1, "a.t": (1, "x"), "a.u": 3}, {}, [], ["a.s", "a.t"]),
                   {"a.s": ("made", 1), "a.t": ("made", (1, "x"))})

    def test_wished_rules(self):
        self.makes(house_of({}, {"a.r": "(+ 1 2)", "b.r": "(/ 1 0)", "c.r": "1"}, [], ["a.r", "b.r"]),
                   {"a.r": ("made", 3), "b.r": NOUGHT})

    def test_wished_names_of_nothing(self):
        self.makes(house_of({"a.s": 1}, {}, ["n.open"], ["n.n", "n.open", "a.s"]), {"a.s": ("made", 1)})
        self.makes(house_of({}, {}, [], ["n.n"]), {})

    def test_rules_that_look_at_rules(self):
        self.makes(house_of({"a.s": 5}, {"a.r": '(+ (look "a.q") 1)', "a.q": '(* (look "a.s") 10)'}, [], ["a.r"]),
                   {"a.s": ("made", 5), "a.q": ("made", 50), "a.r": ("made", 51)})

    def test_over_opened_names(self):
        rules = {"a.r": '(+ (look "b.q") 1)', "b.q": '(* (look "c.s") 10)'}
        self.makes(house_of({"c.s": 5}, rules, ["b.q", "c.s"], ["a.r"]),
                   {"c.s": ("made", 5), "b.q": ("made", 50), "a.r": ("made", 51)})
        shut = ("wrong", "shut", "c.s")
        self.makes(house_of({"c.s": 5}, rules, ["b.q"], ["a.r"]), {"b.q": shut, "a.r": shut})
        self.makes(house_of({"c.s": 5}, rules, ["c.s"], ["a.r"]), {"a.r": ("wrong", "shut", "b.q")})

    def test_shut_names_are_not_come_to(self):
        house = house_of({"b.s": 5}, {"a.r": '(else (look "b.s") 1)', "a.q": '(else (look "b.q") 2)', "b.q": "3"}, [],
                         ["a.r", "a.q"])
        self.makes(house, {"a.r": ("made", 1), "a.q": ("made", 2)})
        house.wish("b.s")
        self.makes(house, {"a.r": ("made", 1), "a.q": ("made", 2), "b.s": ("made", 5)})

    def test_come_to_by_one_and_shut_to_the_other(self):
        self.makes(house_of({}, {"a.r": '(else (look "b.q") 1)', "b.r": '(look "b.q")', "b.q": "3"}, [], ["a.r", "b.r"]),
                   {"a.r": ("made", 1), "b.r": ("made", 3), "b.q": ("made", 3)})

    def test_names_that_are_none_or_no_names(self):
        for text in ("a.none", "n.open", "no name", "", "a", "a.b.c", "A.b"):
            wrong = ("wrong", "none", text)
            self.makes(house_of({}, {"a.r": f'(look "{text}")'}, ["n.open"], ["a.r"]), {"a.r": wrong})
            self.makes(house_of({}, {"a.r": f'(else (look "{text}") 7)'}, ["n.open"], ["a.r"]), {"a.r": ("made", 7)})
        self.makes(house_of({}, {"a.r": '(look "n.shut")'}, [], ["a.r"]), {"a.r": ("wrong", "shut", "n.shut")})
        self.makes(house_of({}, {"a.r": "(look 5)"}, [], ["a.r"]), {"a.r": KIND})

    def test_a_branch_that_is_not_gone_through(self):
        rules = {"a.r": '(if (look "a.s") (look "a.p") (look "a.q"))', "a.p": "1", "a.q": "2"}
        self.makes(house_of({"a.s": 0}, rules, [], ["a.r"]), {"a.s": ("made", 0), "a.q": ("made", 2), "a.r": ("made", 2)})
        self.makes(house_of({"a.s": 5}, rules, [], ["a.r"]), {"a.s": ("made", 5), "a.p": ("made", 1), "a.r": ("made", 1)})
        self.makes(house_of({"a.s": 5}, {"a.r": '(else 1 (look "a.s"))'}, [], ["a.r"]), {"a.r": ("made", 1)})
        self.makes(house_of({"a.s": 5}, {"a.r": '(list (cry 1) (look "a.s"))'}, [], ["a.r"]), {"a.r": ("wrong", "cried", 1)})
        self.makes(house_of({"a.s": 5}, {"a.r": '(each x (lit ()) (look "a.s"))'}, [], ["a.r"]), {"a.r": ("made", ())})

    def test_things_that_nobody_wishes_or_looks_at(self):
        self.makes(house_of({"a.s": 5, "a.t": 6}, {"a.r": '(look "a.s")', "a.q": '(look "a.t")', "a.w": '(look "a.w")'},
                            ["a.t", "a.q"], ["a.r"]), {"a.s": ("made", 5), "a.r": ("made", 5)})

    def test_a_name_found_by_another_look(self):
        house = house_of({"a.s": "a.p", "a.t": "a.q", "a.q": 8}, {"a.r": '(list (look (look "a.s")) (look (look "a.t")))',
                                                                "a.p": "4"}, [], ["a.r"])
        self.makes(house, {"a.s": ("made", "a.p"), "a.t": ("made", "a.q"), "a.q": ("made", 8), "a.p": ("made", 4),
                           "a.r": ("made", (4, 8))})
        house.put_rule("a.s", read_rule('(join "a." "q")'))
        self.makes(house, {"a.s": ("made", "a.q"), "a.t": ("made", "a.q"), "a.q": ("made", 8), "a.r": ("made", (8, 8))})

    def test_a_rule_that_goes_wrong(self):
        rules = {"a.r": '(+ (look "a.w") 1)', "a.e": '(else (look "a.w") 1)', "a.w": '(cry (look "a.s"))'}
        wrong = ("wrong", "cried", 5)
        self.makes(house_of({"a.s": 5}, rules, [], ["a.r"]), {"a.s": ("made", 5), "a.w": wrong, "a.r": wrong})
        self.makes(house_of({"a.s": 5}, rules, [], ["a.e", "a.r"]),
                   {"a.s": ("made", 5), "a.w": wrong, "a.r": wrong, "a.e": ("made", 1)})

    def test_a_wrong_that_names_another(self):
        # a.t is come to, though its outcome says of itself that it is shut.
        self.makes(house_of({}, {"a.r": '(look "a.t")', "a.t": '(look "b.x")', "b.x": '(look "a.t")'}, ["b.x"], ["a.r"]),
                   {"b.x": ("wrong", "shut", "a.t"), "a.t": ("wrong", "shut", "a.t"), "a.r": ("wrong", "shut", "a.t")})

    def test_things_looked_at_by_several(self):
        rules = {"a.r": '(list (look "a.p") (look "a.q") (look "a.p") (look "a.s"))', "a.p": '(+ (look "a.o") (look "a.s"))',
                 "a.q": '(* (look "a.o") (look "a.s"))', "a.o": '(+ 1 (look "a.s"))'}
        self.makes(house_of({"a.s": 3}, rules, [], ["a.r", "a.o"]),
                   {"a.s": ("made", 3), "a.o": ("made", 4), "a.p": ("made", 7), "a.q": ("made", 12),
                    "a.r": ("made", (7, 12, 7, 3))})

    def test_a_chain(self):
        for order in (1, -1):
            rules = {f"a.r{n}": f'(+ 1 (look "a.r{n - 1}"))' for n in list(range(1, 40))[::order]}
            self.makes(house_of({"a.r0": 0}, rules, [], ["a.r39"]), {f"a.r{n}": ("made", n) for n in range(40)})
            self.makes(house_of({"a.r0": 0}, rules, [], ["a.r10"]), {f"a.r{n}": ("made", n) for n in range(11)})

    def test_a_house_of_forty_things(self):
        names = [f"r{n // 10}.t{n % 10}" for n in range(40)]
        rules = {names[n]: f'(+ (look "{names[n // 2]}") (look "{names[n // 3]}"))' for n in range(2, 40)}
        expected = {names[0]: ("made", 1), names[1]: ("made", 2)}
        for n in range(2, 40):
            expected[names[n]] = ("made", expected[names[n // 2]][1] + expected[names[n // 3]][1])
        self.makes(house_of({names[0]: 1, names[1]: 2}, rules, names, names[20:]), expected)

    def test_many_looks_in_one_run(self):
        looks = " ".join(['(look "a.q")', '(look "a.s")'] * 4)
        ten = " ".join(str(n) for n in range(10))
        house = house_of({"a.s": 1}, {"a.r": f"(each x (lit ({ten})) (each y (lit ({ten})) (count (list {looks}))))", "a.q": "2"},
                         [], ["a.r"])
        found = plain(house)
        self.assertEqual(found, ({"a.s": ("made", 1), "a.q": ("made", 2), "a.r": ("made", ((8,) * 10,) * 10)}, {}))


class WithRings(Made):
    def test_a_rule_that_looks_at_itself(self):
        self.makes(house_of({}, {"a.r": '(look "a.r")'}, [], ["a.r"]), {}, {"a.r": "a.r"})
        self.makes(house_of({}, {"a.r": '(else (look "a.r") 1)'}, [], ["a.r"]), {}, {"a.r": "a.r"})
        self.makes(house_of({}, {"a.r": '(look (join "a" ".r"))'}, [], ["a.r"]), {}, {"a.r": "a.r"})

    def test_rings_of_two_and_more(self):
        self.makes(house_of({}, {"a.p": '(look "a.q")', "a.q": '(look "a.p")'}, [], ["a.p"]), {}, {"a.p": "a.q", "a.q": "a.p"})
        self.makes(house_of({}, {"a.p": '(look "b.q")', "b.q": '(look "c.r")', "c.r": '(look "a.p")'}, ["a.p", "b.q", "c.r"],
                            ["b.q"]), {}, {"a.p": "b.q", "b.q": "c.r", "c.r": "a.p"})
        names = [f"a.r{n}" for n in range(40)]
        ring = {name: names[(n + 1) % 40] for n, name in enumerate(names)}
        self.makes(house_of({}, {name: f'(look "{ring[name]}")' for name in names}, [], ["a.r7"]), {}, ring)

    def test_a_ring_that_is_shut_somewhere(self):
        shut = ("wrong", "shut", "a.p")
        self.makes(house_of({}, {"a.p": '(look "b.q")', "b.q": '(look "a.p")'}, ["b.q"], ["a.p"]), {"a.p": shut, "b.q": shut})

    def test_one_that_waits_without_standing_in_it(self):
        rules = {"a.o": '(+ 1 (look "a.p"))', "a.p": '(look "a.q")', "a.q": '(look "a.p")', "a.n": '(look "a.o")'}
        self.makes(house_of({}, rules, [], ["a.n"]), {}, {"a.n": "a.o", "a.o": "a.p", "a.p": "a.q", "a.q": "a.p"})
        self.makes(house_of({}, rules, [], ["a.o"]), {}, {"a.o": "a.p", "a.p": "a.q", "a.q": "a.p"})

    def test_rings_beside_others(self):
        rules = {"a.r": '(+ (look "a.s") (look "a.q"))', "a.q": "2", "a.w": '(list (look "a.s") (look "a.t") (look "a.w"))',
                 "a.v": '(look "a.u")', "a.u": '(look "a.v")'}
        self.makes(house_of({"a.s": 1, "a.t": 9}, rules, [], ["a.w", "a.r", "a.v"]),
                   {"a.s": ("made", 1), "a.t": ("made", 9), "a.q": ("made", 2), "a.r": ("made", 3)},
                   {"a.w": "a.w", "a.u": "a.v", "a.v": "a.u"})

    def test_what_is_behind_the_wait_is_not_come_to(self):
        rules = {"a.r": '(list (look "a.p") (look "a.r") (look "a.q"))', "a.p": "1", "a.q": "2"}
        self.makes(house_of({}, rules, [], ["a.r"]), {"a.p": ("made", 1)}, {"a.r": "a.r"})

    def test_a_ring_in_a_branch_that_is_not_gone_through(self):
        rules = {"a.r": '(if (look "a.s") 1 (look "a.w"))', "a.w": '(look "a.r")'}
        self.makes(house_of({"a.s": 1}, rules, [], ["a.r"]), {"a.s": ("made", 1), "a.r": ("made", 1)})
        self.makes(house_of({"a.s": 1}, rules, [], ["a.w"]), {"a.s": ("made", 1), "a.r": ("made", 1), "a.w": ("made", 1)})
        self.makes(house_of({"a.s": 0}, rules, [], ["a.r"]), {"a.s": ("made", 0)}, {"a.r": "a.w", "a.w": "a.r"})

    def test_no_else_takes_a_wait(self):
        self.makes(house_of({}, {"a.r": '(else (look "a.w") 1)', "a.w": '(look "a.w")'}, [], ["a.r"]), {},
                   {"a.r": "a.w", "a.w": "a.w"})

    def test_just_the_name_that_it_waits_for(self):
        # It looks at two that have an outcome, one after the other, ahead of the one that it waits for.
        rules = {"a.r": '(list (look "a.p") (look "a.q") (look "a.w") (look "a.v"))', "a.p": '(look "a.q")', "a.q": '(look "a.s")',
                 "a.w": '(list (look "a.p") (look "a.v"))', "a.v": '(list (look "a.q") (look "a.w"))'}
        self.makes(house_of({"a.s": 1}, rules, [], ["a.r"]),
                   {"a.s": ("made", 1), "a.q": ("made", 1), "a.p": ("made", 1)},
                   {"a.r": "a.w", "a.w": "a.v", "a.v": "a.w"})


class Whole(Made):
    def test_by_chance(self):
        rings = wrongs = 0
        for seed in range(1500):
            house = chance_house(random.Random(seed))
            outcomes, waits = plainly_made(house)
            self.makes(house, outcomes, waits)
            rings += len(waits) > 0
            wrongs += any(outcome[0] == "wrong" for outcome in outcomes.values())
        self.assertGreater(rings, 200)
        self.assertGreater(wrongs, 200)

    def test_what_is_given_is_the_askers_own(self):
        for seed in range(100):
            house = chance_house(random.Random(seed))
            outcomes, waits = plain(house)
            kept = copy.deepcopy((outcomes, waits))
            told(house, outcomes, waits)
            outcomes["a.t0"] = ("made", "spoilt")
            outcomes.clear()
            waits.clear()
            waits["x"] = "y"
            self.assertEqual(plain(house), kept)

    def test_the_house_changed_behind_the_call(self):
        house = house_of({"a.s": 1}, {"a.r": '(look "a.s")'}, [], ["a.r"])
        found = plain(house)
        house.put("a.s", 2)
        house.let_go("a.r")
        self.assertEqual(found, ({"a.s": ("made", 1), "a.r": ("made", 1)}, {}))
        self.assertEqual(plain(house), ({}, {}))

    def test_the_same_again(self):
        houses = [chance_house(random.Random(seed)) for seed in range(60)]
        first = [plain(house) for house in houses]
        self.assertEqual([plain(house) for house in reversed(houses)], first[::-1])
        self.assertEqual([plain(house.copy()) for house in houses], first)


if __name__ == "__main__":
    unittest.main()
