import copy
import random
import unittest

from leastforge.forms import free_in, is_rule, many, nesting, parts_of
from tests.samples import (FEW, FIXED, ONE, SIGNS, TWO, VARIABLES, WRITTEN, chance_expression, counts, nested,
                           of_sixty)

X = ("var", "x")
Y = ("var", "y")
Z = ("var", "z")

NO_TUPLES = [None, True, False, 0, 1, -5, "", "x", "lit", "list", [], [1], {}, {"lit": 1}, ["list"], ["lit", 1]]

# Each form with its parts, told apart: word, variables, parts.
PARTED = [(word, (), count) for word, count in FIXED.items()]
PARTED += [("let", ("x",), 2), ("each", ("x",), 2), ("over", ("x", "y"), 3)]
PARTED += [("list", (), count) for count in range(1, 9)]


def with_parts(word, variables, parts):
    return (word,) + tuple(variables) + tuple(parts)


def each_place(part):
    """Good expressions in which `part` stands, once at each place of each form, the others being ONE."""
    for word, variables, count in PARTED:
        for place in range(count):
            parts = [ONE] * count
            parts[place] = part
            yield with_parts(word, variables, parts)


class Told(unittest.TestCase):
    def tell(self, thing, expected):
        self.assertIs(is_rule(thing), expected, repr(thing)[:300])


class Forms(Told):
    def test_each_form(self):
        for rule, text in WRITTEN:
            self.tell(rule, True)
        for rule in each_place(ONE):
            self.tell(rule, True)

    def test_a_part_too_many(self):
        for rule, text in WRITTEN:
            if rule[0] != "list" or len(rule) == 9:
                self.tell(rule + (ONE,), False)
                self.tell(("list", rule + (ONE,)), False)

    def test_a_part_too_few(self):
        for rule, text in WRITTEN:
            if rule[0] != "list":
                self.tell(rule[:-1], False)
                self.tell(rule[:1], False)
                self.tell(("list", rule[:-1]), False)

    def test_var_with_more_or_fewer(self):
        for spoilt in [("var",), ("var", "x", "x"), ("var", "x", ONE), ("var", "x", "y", ONE), ("var", X)]:
            self.tell(spoilt, False)
            self.tell(("let", "x", ONE, spoilt), False)
            self.tell(("each", "x", FEW, ("count", spoilt)), False)

    def test_a_list_in_the_place_of_a_tuple(self):
        for rule, text in WRITTEN:
            self.tell(list(rule), False)
            self.tell(("list", list(rule)), False)
            self.tell([("list", rule)], False)
        for rule in each_place(["lit", 1]):
            self.tell(rule, False)

    def test_another_word(self):
        words = ["", "Lit", "LIT", "lit ", "add", "plus", "sum", "//", "^", "eq", "equal", "not", "and", "for", "map",
                 "made", "wrong", "paper", "x", "figure", "lists", "overs", "lt", "<", "=", "==", "Look", "looks"]
        for word in words:
            for count in range(7):
                self.tell((word,) + (ONE,) * count, False)
            self.tell((word, "x", ONE, ONE), False)
            self.tell((word, "x", "y", ONE, ONE, ONE), False)
            self.tell((word, 1), False)
            self.tell((word, "x"), False)

    def test_no_word_at_all(self):
        for word in [None, True, 0, 1, (), ("lit",), ["lit"], {"lit": 1}, ONE, [], {}]:
            for count in range(5):
                self.tell((word,) + (ONE,) * count, False)
            self.tell((word, 1), False)

    def test_things_that_are_no_tuples(self):
        for thing in NO_TUPLES + [(), ((),), (ONE,), (ONE, TWO)]:
            self.tell(thing, False)
            self.tell(("list", thing), False)
        for thing in NO_TUPLES:
            for rule in each_place(thing):
                self.tell(rule, False)

    def test_lits(self):
        for worth in [0, -1, 10 ** 60 - 1, "", "a" * 400, SIGNS, (), (1, ("a", ())), nested(12, 0), (0,) * 60,
                      ("a" * 399, "b" * 399, "c" * 198), ("lit", 1), ("var", "x"), ("each",)]:
            self.tell(("lit", worth), True)
            self.tell(("count", ("lit", worth)), True)
        for thing in [True, False, None, [], [1], {}, (True,), (None,), ([],), (1, (2, {})), 10 ** 60, -10 ** 60,
                      "a" * 401, '"', "\n", "\t", nested(13, 0), (0,) * 61, ("a" * 399, "b" * 399, "c" * 199)]:
            self.tell(("lit", thing), False)
            self.tell(("count", ("lit", thing)), False)

    def test_lists_of_many(self):
        for count in range(9):
            self.tell(("list",) + (ONE,) * count, True)
        for count in (9, 10, 20):
            self.tell(("list",) + (ONE,) * count, False)
            self.tell(("count", ("list",) + (ONE,) * count), False)


class VariableNames(Told):
    def about(self, name):
        yield ("let", name, ONE, TWO)
        yield ("each", name, FEW, TWO)
        yield ("over", name, "other", FEW, ONE, TWO)
        yield ("over", "other", name, FEW, ONE, TWO)
        yield ("count", ("let", name, ONE, TWO))

    def bound_about(self, name):
        yield ("let", name, ONE, ("var", name))
        yield ("each", name, FEW, ("var", name))
        yield ("over", name, "other", FEW, ONE, ("var", name))
        yield ("over", "other", name, FEW, ONE, ("var", name))

    def test_good_ones(self):
        letters = "abcdefghijklmnopqrstuvwxyz"
        names = ["x", "ab", "abcdefg", "abcdefgh", "zzzzzzzz", "let", "list", "lit", "var", "each"] + list(letters)
        for name in names + ["a" + letter for letter in letters]:
            for rule in list(self.about(name)) + list(self.bound_about(name)):
                self.tell(rule, True)

    def test_others(self):
        names = ["", "abcdefghi", "a" * 20, "X", "aB", "Ab", "x1", "1", "1x", "a b", " ", " a", "a ", "x_", "_", "a.b",
                 "-", "+", "a-b", "~", "a\n", "\n", "\t", "`", "{", "@", "[", "a{", "a`"]
        for name in names:
            for rule in list(self.about(name)) + list(self.bound_about(name)):
                self.tell(rule, False)

    def test_no_texts(self):
        for name in [None, True, 0, 1, (), ("x",), ["x"], {}, {"x": 1}, ONE, X, [], ("var", "x")]:
            for rule in self.about(name):
                self.tell(rule, False)
            self.tell(("var", name), False)
            self.tell(("let", "x", ONE, ("var", name)), False)

    def test_var_of_a_bad_name(self):
        for name in ["", "abcdefghi", "X", "x1", None, 1, ("x",), ["x"]]:
            self.tell(("let", "x", ONE, ("var", name)), False)

    def test_over_with_both_alike(self):
        for name in ["x", "y", "abcdefgh"]:
            self.tell(("over", name, name, FEW, ONE, TWO), False)
            self.tell(("over", name, name, FEW, ONE, ("var", name)), False)
            self.tell(("count", ("over", name, name, FEW, ONE, TWO)), False)
        self.tell(("over", "x", "xx", FEW, ONE, TWO), True)


class Binding(Told):
    def test_let(self):
        self.tell(("let", "x", ONE, X), True)
        self.tell(("let", "x", X, ONE), False)
        self.tell(("let", "x", X, X), False)
        self.tell(("let", "x", ONE, Y), False)
        self.tell(("let", "x", ONE, ("let", "y", X, ("+", X, Y))), True)
        self.tell(("let", "x", ("let", "y", ONE, Y), ("+", X, Y)), False)
        self.tell(("let", "x", ("let", "y", ONE, Y), X), True)

    def test_each(self):
        self.tell(("each", "x", FEW, X), True)
        self.tell(("each", "x", X, ONE), False)
        self.tell(("each", "x", ("list", X), X), False)
        self.tell(("each", "x", FEW, Y), False)

    def test_over(self):
        self.tell(("over", "x", "y", FEW, ONE, X), True)
        self.tell(("over", "x", "y", FEW, ONE, Y), True)
        self.tell(("over", "x", "y", FEW, ONE, ("+", X, Y)), True)
        self.tell(("over", "x", "y", FEW, ONE, Z), False)
        for name in (X, Y):
            self.tell(("over", "x", "y", name, ONE, ONE), False)
            self.tell(("over", "x", "y", FEW, name, ONE), False)

    def test_bound_again_within(self):
        self.tell(("let", "x", ONE, ("let", "x", X, X)), True)
        self.tell(("let", "x", ONE, ("let", "x", TWO, ("+", X, X))), True)
        self.tell(("let", "x", FEW, ("each", "x", X, X)), True)
        self.tell(("let", "x", FEW, ("over", "x", "y", X, X, ("+", X, Y))), True)
        self.tell(("let", "y", FEW, ("over", "x", "y", Y, Y, ("+", X, Y))), True)
        self.tell(("let", "x", ONE, ("+", ("let", "x", TWO, X), X)), True)

    def test_not_bound_behind(self):
        self.tell(("+", ("let", "x", ONE, X), X), False)
        self.tell(("+", X, ("let", "x", ONE, X)), False)
        self.tell(("list", ("each", "x", FEW, X), X), False)
        self.tell(("list", ("over", "x", "y", FEW, ONE, Y), Y), False)
        self.tell(("list", ("over", "x", "y", FEW, ONE, Y), X), False)

    def test_at_each_place(self):
        self.tell(Z, False)
        for rule in each_place(Z):
            self.tell(rule, False)
            self.tell(("let", "z", ONE, rule), True)
            self.tell(("let", "z", rule, ONE), False)
            self.tell(("let", "x", ONE, rule), False)

    def test_a_lit_that_looks_like_a_var(self):
        self.tell(("lit", ("var", "x")), True)
        self.assertEqual(free_in(("lit", ("var", "x"))), [])


class Bounds(Told):
    def test_sixty_expressions(self):
        sixty = of_sixty(("list", ONE, TWO))
        self.assertEqual(many(sixty), 60)
        self.tell(sixty, True)
        self.tell(of_sixty(("list", ONE)), True)
        for last in [("list", ONE, TWO, ONE), ("if", ONE, ONE, ONE), ("+", ONE, ("count", FEW)),
                     ("let", "x", ONE, ("count", X))]:
            self.tell(of_sixty(last), False)
        for last in [("let", "x", ONE, X), ("each", "x", FEW, ("list",)), ("count", ("count", ONE))]:
            self.tell(of_sixty(last), True)

    def test_lits_count_once(self):
        self.tell(of_sixty(("list", ("lit", (1,) * 60), ("lit", ((), (), ())))), True)

    def test_far_more(self):
        great = ("list",) + (("list",) + (("list",) + (ONE,) * 8,) * 8,) * 8
        self.tell(great, False)
        self.tell(("list", great, ONE), False)

    def test_twelve_deep(self):
        for inner in [ONE, ("list",), ("lit", nested(12, 0)), ("lit", ())]:
            self.tell(counts(12, inner), True)
            self.tell(counts(13, inner), False)
            self.tell(counts(28, inner), False)

    def test_twelve_deep_at_each_place(self):
        for rule in each_place(counts(11, ONE)):
            self.tell(rule, True)
        for rule in each_place(counts(12, ONE)):
            self.tell(rule, False)

    def test_repeated_parts(self):
        def each(part):
            return ("each", "x", FEW, part)

        def over(part):
            return ("over", "x", "y", FEW, ONE, part)

        for one in (each, over):
            self.tell(one(ONE), True)
            for two in (each, over):
                self.tell(one(two(ONE)), True)
                self.tell(one(("+", ONE, ("let", "z", two(X), Z))), True)
                for three in (each, over):
                    self.tell(one(two(three(ONE))), False)
                    self.tell(one(("+", ONE, two(("count", three(ONE))))), False)
                    self.tell(one(("let", "z", ONE, ("if", Z, two(("cry", three(X))), ONE))), False)
                    self.tell(("list", ONE, one(two(three(ONE)))), False)
                    self.tell(one(("list", two(ONE), three(ONE))), True)

    def test_parts_that_are_not_repeated(self):
        one = ("each", "x", FEW, X)
        two = ("each", "x", FEW, one)
        self.tell(("each", "x", two, X), True)
        self.tell(("over", "x", "y", two, ONE, X), True)
        self.tell(("over", "x", "y", FEW, two, X), True)
        self.tell(("over", "x", "y", FEW, ONE, two), False)
        self.tell(("each", "x", FEW, ("each", "x", one, X)), True)
        self.tell(("each", "x", FEW, ("over", "x", "y", one, one, X)), True)
        self.tell(("each", "x", FEW, ("each", "x", two, X)), False)
        self.tell(("each", "x", FEW, ("over", "x", "y", two, ONE, X)), False)
        self.tell(("each", "x", FEW, ("over", "x", "y", FEW, two, X)), False)
        self.tell(("each", "x", FEW, ("each", "x", FEW, ("list", FEW, one))), False)
        self.tell(("let", "z", two, two), True)
        self.tell(("if", two, two, two), True)


class Asked(unittest.TestCase):
    def test_parts_of(self):
        self.assertEqual(parts_of(("lit", (1, ("lit", 2)))), [])
        self.assertEqual(parts_of(("lit", ("list", ("lit", 2)))), [])
        self.assertEqual(parts_of(X), [])
        self.assertEqual(parts_of(("list",)), [])
        marks = [("lit", number) for number in range(8)]
        for word, variables, count in PARTED:
            found = parts_of(with_parts(word, variables, marks[:count]))
            self.assertEqual(found, marks[:count], word)
            self.assertIs(type(found), list)

    def test_parts_of_such_with_unbound_variables(self):
        self.assertEqual(parts_of(("let", "x", Y, Z)), [Y, Z])
        self.assertEqual(parts_of(("over", "x", "y", X, Y, Z)), [X, Y, Z])
        self.assertEqual(parts_of(("+", X, ("count", Y))), [X, ("count", Y)])

    def test_many(self):
        for rule, expected in [
            (ONE, 1), (FEW, 1), (("lit", ("list", ONE)), 1), (X, 1), (("list",), 1), (("count", X), 2),
            (("list", ONE, X, ("list",)), 4), (("let", "x", ONE, X), 3), (("if", ONE, X, ("+", ONE, Y)), 6),
            (("each", "x", FEW, ("cry", X)), 4), (("over", "x", "y", FEW, ONE, ("+", X, Y)), 6),
            (counts(12, ONE), 13), (of_sixty(("list", ONE, TWO)), 60),
        ]:
            self.assertEqual(many(rule), expected, rule)
        for word, variables, count in PARTED:
            self.assertEqual(many(with_parts(word, variables, [ONE] * count)), 1 + count)

    def test_nesting(self):
        for rule, expected in [
            (ONE, 0), (("lit", nested(12, 0)), 0), (X, 0), (("list",), 0), (("list", ("list",)), 1),
            (("+", ONE, ("count", X)), 2), (("+", ("count", X), ONE), 2),
            (("let", "x", ("count", ("count", ONE)), X), 3), (counts(12, ONE), 12),
            (("if", ONE, ("count", ONE), ("count", ("count", ONE))), 3),
        ]:
            self.assertEqual(nesting(rule), expected, rule)
        for rule in each_place(ONE):
            self.assertEqual(nesting(rule), 1, rule)
        for rule in each_place(("count", ("count", Z))):
            self.assertEqual(nesting(rule), 3, rule)

    def test_free_in(self):
        for rule, expected in [
            (ONE, []), (("list",), []), (X, ["x"]), (("+", X, X), ["x"]), (("+", Y, X), ["x", "y"]),
            (("let", "x", X, X), ["x"]), (("let", "x", ONE, X), []), (("let", "x", Y, Z), ["y", "z"]),
            (("let", "x", Z, ("+", X, Y)), ["y", "z"]), (("each", "x", X, ONE), ["x"]),
            (("each", "x", FEW, ("+", X, Y)), ["y"]), (("each", "x", Y, X), ["y"]),
            (("over", "x", "y", FEW, ONE, ("list", X, Y, Z)), ["z"]),
            (("over", "x", "y", X, ONE, ONE), ["x"]), (("over", "x", "y", FEW, X, ONE), ["x"]),
            (("over", "x", "y", Y, ONE, ONE), ["y"]), (("over", "x", "y", FEW, Y, ONE), ["y"]),
            (("over", "x", "y", FEW, ONE, X), []), (("over", "x", "y", FEW, ONE, Y), []),
            (("list", ("let", "x", ONE, X), X), ["x"]), (("list", X, ("let", "x", ONE, X)), ["x"]),
            (("let", "x", ONE, ("let", "x", X, X)), []), (("let", "y", X, ("let", "x", Y, ("+", X, Y))), ["x"]),
            (("list", ("var", "b"), ("var", "ab"), ("var", "a"), ("var", "c"), ("var", "a")), ["a", "ab", "b", "c"]),
            (("lit", ("var", "x")), []), (("cry", ("look", X)), ["x"]),
        ]:
            found = free_in(rule)
            self.assertEqual(found, expected, rule)
            self.assertIs(type(found), list)
        for rule in each_place(Z):
            self.assertEqual(free_in(rule), ["z"], rule)

    def test_new_lists_each_time(self):
        rule = ("let", "x", Y, ("list", Z, X))
        for ask in (parts_of, free_in):
            first = ask(rule)
            kept = list(first)
            first.append("spoilt")
            first[0] = "spoilt"
            self.assertEqual(ask(rule), kept)
            self.assertIsNot(ask(rule), ask(rule))
        for rule in (ONE, X, ("list",), ("let", "x", ONE, X)):
            for ask in (parts_of, free_in):
                kept = ask(rule)
                ask(rule).append("spoilt")
                self.assertEqual(ask(rule), kept)

    def test_whole_numbers_are_told(self):
        for rule, text in WRITTEN:
            self.assertIs(type(many(rule)), int)
            self.assertIs(type(nesting(rule)), int)


def plainly_good(thing, bound, levels, repeated):
    """How many expressions there are, by points 6 to 8 said once more; 1,000 where it isn't good."""
    word = thing[0]
    if word == "lit":
        return 1
    if word == "var":
        return 1 if thing[1] in bound else 1000
    if levels == 0 and len(thing) > 1:
        return 1000
    counted = 1
    names = {"let": 1, "each": 1, "over": 2}.get(word, 0)
    for place in range(1 + names, len(thing)):
        last = place == len(thing) - 1 and names > 0
        more = 1 if last and word != "let" else 0
        if repeated + more > 2:
            return 1000
        inner = bound | set(thing[1:1 + names]) if last else bound
        counted += plainly_good(thing[place], inner, levels - 1, repeated + more)
    return counted


class ByChance(Told):
    def test_rules(self):
        good = 0
        for seed in range(1500):
            chance = random.Random(seed)
            start = chance.choice([[], [], [], ["x"]])
            rule = chance_expression(chance, chance.choice([1, 2, 3, 4, 6]), start, chance.choice([0, 0, -1]))
            expected = plainly_good(rule, set(), 12, 0) <= 60
            self.tell(rule, expected)
            good += expected
        self.assertTrue(500 < good < 1450, good)

    def test_nothing_handed_in_is_changed(self):
        things = [rule for rule, text in WRITTEN] + NO_TUPLES
        things += [["let", "x", [1], {"a": [2]}], ("let", "x", ["lit", 1], {"lit": 1}), ("lit", [1, [2]])]
        for thing in things:
            before = copy.deepcopy(thing)
            is_rule(thing)
            self.assertEqual(thing, before)

    def test_the_same_again(self):
        things = [rule for rule, text in WRITTEN] + NO_TUPLES + [X, Z] + [("var", name) for name in VARIABLES]
        first = [is_rule(thing) for thing in things]
        self.assertEqual([is_rule(thing) for thing in reversed(things)], first[::-1])
        rules = [thing for thing, good in zip(things, first) if good]
        told = [(many(rule), nesting(rule), free_in(rule), parts_of(rule)) for rule in rules]
        self.assertEqual([(many(rule), nesting(rule), free_in(rule), parts_of(rule)) for rule in rules], told)


if __name__ == "__main__":
    unittest.main()
