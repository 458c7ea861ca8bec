"""What several tests draw from: expressions of each form, and others made by chance from a fixed seed."""

from leastforge.formtexts import read_rule
from leastforge.house import House

ONE = ("lit", 1)
TWO = ("lit", 2)
FEW = ("lit", (1, 2, 3))

# Good expressions, at least one of each form, and how each is written.
WRITTEN = [
    (("lit", 0), "0"),
    (("lit", -17), "-17"),
    (("lit", ""), '""'),
    (("lit", "a b"), '"a b"'),
    (("lit", ()), "(lit ())"),
    (("lit", (1, "a", (2, ()))), '(lit (1 "a" (2 ())))'),
    (("let", "x", ONE, ("var", "x")), "(let x 1 x)"),
    (("if", ONE, TWO, ("lit", 3)), "(if 1 2 3)"),
    (("+", ONE, TWO), "(+ 1 2)"),
    (("-", ONE, TWO), "(- 1 2)"),
    (("*", ONE, TWO), "(* 1 2)"),
    (("/", ONE, TWO), "(/ 1 2)"),
    (("same", ONE, TWO), "(same 1 2)"),
    (("less", ONE, TWO), "(less 1 2)"),
    (("join", ("lit", "a"), ("lit", "b")), '(join "a" "b")'),
    (("list",), "(list)"),
    (("list", ONE), "(list 1)"),
    (("list", ONE, TWO, ONE, TWO, ONE, TWO, ONE, TWO), "(list 1 2 1 2 1 2 1 2)"),
    (("item", FEW, ONE), "(item (lit (1 2 3)) 1)"),
    (("count", FEW), "(count (lit (1 2 3)))"),
    (("figures", ("lit", -5)), "(figures -5)"),
    (("each", "x", FEW, ("var", "x")), "(each x (lit (1 2 3)) x)"),
    (("over", "x", "y", FEW, TWO, ("+", ("var", "x"), ("var", "y"))),
     "(over x y (lit (1 2 3)) 2 (+ x y))"),
    (("look", ("lit", "a.b")), '(look "a.b")'),
    (("else", ONE, TWO), "(else 1 2)"),
    (("cry", ONE), "(cry 1)"),
]

FIXED = {"if": 3, "+": 2, "-": 2, "*": 2, "/": 2, "same": 2, "less": 2, "join": 2, "item": 2,
         "count": 1, "figures": 1, "look": 1, "else": 2, "cry": 1}
VARIABLES = ["x", "y", "z", "let", "list", "abcdefgh"]
SIGNS = "".join(chr(code) for code in range(32, 127) if code not in (34, 37))


def nested(levels, inner):
    """The worth `inner` within so many lists."""
    for _ in range(levels):
        inner = (inner,)
    return inner


def counts(levels, inner):
    """The expression `inner` within so many counts."""
    for _ in range(levels):
        inner = ("count", inner)
    return inner


def of_sixty(last):
    """A list expression of 60 - 3 expressions, and those of `last`."""
    return ("list",) + (("list",) + (ONE,) * 7,) * 7 + (last,)


def chance_worth(chance, levels=3):
    kind = chance.randrange(4 if levels else 3)
    if kind == 0:
        return chance.choice([0, 1, -1, 2, 3, 7, -7, 10, 10 ** 60 - 1, 1 - 10 ** 60, chance.randrange(-99, 99)])
    if kind in (1, 2):
        return "".join(chance.choice(SIGNS) for _ in range(chance.randrange(5)))
    return tuple(chance_worth(chance, levels - 1) for _ in range(chance.choice([0, 1, 2, 3, 4, 11])))


def chance_expression(chance, levels, bound, repeated=0):
    """A formed expression; it may have too many expressions, and is a rule else."""
    if levels == 0 or chance.random() < 0.12:
        if bound and chance.random() < 0.6:
            return ("var", chance.choice(bound))
        return ("lit", chance_worth(chance, 2))
    choices = list(FIXED) + ["let", "let", "list", "list", "look", "else", "+"]
    if repeated < 2:
        choices += ["each", "each", "over", "over"]
    word = chance.choice(choices)

    def inner(names=(), more=0):
        return chance_expression(chance, levels - 1, bound + list(names), repeated + more)

    if word == "let":
        name = chance.choice(VARIABLES)
        return ("let", name, inner(), inner([name]))
    if word == "each":
        name = chance.choice(VARIABLES)
        return ("each", name, chance_list(chance, inner), inner([name], 1))
    if word == "over":
        names = chance.sample(VARIABLES, 2)
        return ("over", names[0], names[1], chance_list(chance, inner), inner(), inner(names, 1))
    if word == "list":
        return ("list",) + tuple(inner() for _ in range(chance.randrange(4)))
    if word == "look" and chance.random() < 0.8:
        return ("look", ("lit", chance.choice(["a.b", "a.c", "no name", ""])))
    return (word,) + tuple(inner() for _ in range(FIXED[word]))


def chance_list(chance, inner):
    if chance.random() < 0.7:
        return ("lit", tuple(chance.randrange(5) for _ in range(chance.choice([0, 1, 2, 3, 10, 11]))))
    return inner()


def chance_outcome(chance):
    if chance.random() < 0.65:
        return ("made", chance_worth(chance, 2))
    word = chance.choice(["kind", "great", "nought", "place", "none", "shut", "cried"])
    if word in ("none", "shut"):
        return ("wrong", word, "a.b")
    return ("wrong", word, chance_worth(chance, 1) if word == "cried" else "")


def chance_rule_and_founds(chance):
    """A formed expression, and more founds than most of its runs look for."""
    rule = chance_expression(chance, chance.choice([2, 3, 4, 5]), [])
    return rule, [chance_outcome(chance) for _ in range(40)]


def spots(thing, way=()):
    """The ways to all that is within nested tuples, with the thing itself."""
    yield way
    if isinstance(thing, tuple):
        for place, item in enumerate(thing):
            yield from spots(item, way + (place,))


def at(thing, way):
    for place in way:
        thing = thing[place]
    return thing


def changed(thing, way, change):
    """Nested tuples with `change` done to what is at the end of the way."""
    if not way:
        return change(thing)
    place = way[0]
    return thing[:place] + (changed(thing[place], way[1:], change),) + thing[place + 1:]


# N is the place of a name.
HOUSE_RULES = [
    "1", "(cry 2)", '(look "N")', '(look "N")', '(+ (look "N") (look "N"))', '(list (look "N") (look "N"))', '(else (look "N") 5)',
    '(else (look "N") (look "N"))', '(if (look "N") (look "N") (look "N"))', '(if (less 1 (look "N")) (look "N") 7)',
    '(each x (lit ("N" "N" "N")) (look x))', '(each x (lit ("N" "N" "N")) (else (look x) 0))', '(each x (look "N") (look x))',
    '(over x y (lit ("N" "N")) 0 (+ y (look x)))', '(look (look "N"))', '(else (look (look "N")) (look "N"))', '(cry (look "N"))',
    '(count (look "N"))', '(let x (look "N") (list x x))', '(if 0 (look "N") (look "N"))', '(else 3 (look "N"))',
]


def chance_house(chance, most=12):
    """A house of up to so many things in up to three rooms, some of them opened and wished, with others that are none."""
    rooms = ["a", "b", "c9"][:chance.choice([1, 2, 3])]
    names = [f"{chance.choice(rooms)}.t{number}" for number in range(chance.randrange(1, most + 1))]
    others = names + names + names + [rooms[0] + ".none", "d.none", "no name", ""]
    house = House()
    for name in names:
        if chance.random() < 0.25:
            house.put(name, chance.choice([0, 1, 2, chance.choice(others), (chance.choice(others), chance.choice(others))]))
        else:
            pieces = chance.choice(HOUSE_RULES).split("N")
            house.put_rule(name, read_rule(pieces[0] + "".join(chance.choice(others) + piece for piece in pieces[1:])))
    for name in chance.sample(names, chance.randrange(len(names) + 1)) + ["d.none"]:
        house.open_up(name)
    for name in chance.sample(names + ["d.none"], chance.randrange(min(len(names), 6) + 1)):
        house.wish(name)
    return house
