"""What several tests draw from: expressions of each form, and others made by chance from a fixed seed."""

from leastforge.book import Book
from leastforge.formtexts import read_rule
from leastforge.house import House
from leastforge.papers import paper_of
from leastforge.shelf import Shelf
from tests.reference import plain_found, plain_paper, plainly_gone, plainly_made

ONE = ("lit", 1)
TWO = ("lit", 2)
FEW = ("lit", (1, 2, 3))

# Good expressions, at least one of each form, and how each is written.
WRITTEN = [
    (("lit", 0), "0"),
    (("lit", -17), "-17"),
    (("lit", ""), '""'),
    (("lit", "a b"), '"a b"'),
    (("lit", ()), "(lit ())"),
    (("lit", (1, "a", (2, ()))), '(lit (1 "a" (2 ())))'),
    (("let", "x", ONE, ("var", "x")), "(let x 1 x)"),
    (("if", ONE, TWO, ("lit", 3)), "(if 1 2 3)"),
    (("+", ONE, TWO), "(+ 1 2)"),
    (("-", ONE, TWO), "(- 1 2)"),
    (("*", ONE, TWO), "(* 1 2)"),
    (("/", ONE, TWO), "(/ 1 2)"),
    (("same", ONE, TWO), "(same 1 2)"),
    (("less", ONE, TWO), "(less 1 2)"),
    (("join", ("lit", "a"), ("lit", "b")), '(join "a" "b")'),
    (("list",), "(list)"),
    (("list", ONE), "(list 1)"),
    (("list", ONE, TWO, ONE, TWO, ONE, TWO, ONE, TWO), "(list 1 2 1 2 1 2 1 2)"),
    (("item", FEW, ONE), "(item (lit (1 2 3)) 1)"),
    (("count", FEW), "(count (lit (1 2 3)))"),
    (("figures", ("lit", -5)), "(figures -5)"),
    (("each", "x", FEW, ("var", "x")), "(each x (lit (1 2 3)) x)"),
    (("over", "x", "y", FEW, TWO, ("+", ("var", "x"), ("var", "y"))),
     "(over x y (lit (1 2 3)) 2 (+ x y))"),
    (("look", ("lit", "a.b")), '(look "a.b")'),
    (("else", ONE, TWO), "(else 1 2)"),
    (("cry", ONE), "(cry 1)"),
]

FIXED = {"if": 3, "+": 2, "-": 2, "*": 2, "/": 2, "same": 2, "less": 2, "join": 2, "item": 2,
         "count": 1, "figures": 1, "look": 1, "else": 2, "cry": 1}
VARIABLES = ["x", "y", "z", "let", "list", "abcdefgh"]
SIGNS = "".join(chr(code) for code in range(32, 127) if code not in (34, 37))


def nested(levels, inner):
    """The worth `inner` within so many lists."""
    for _ in range(levels):
        inner = (inner,)
    return inner


def counts(levels, inner):
    """The expression `inner` within so many counts."""
    for _ in range(levels):
        inner = ("count", inner)
    return inner


def of_sixty(last):
    """A list expression of 60 - 3 expressions, and those of `last`."""
    return ("list",) + (("list",) + (ONE,) * 7,) * 7 + (last,)


def chance_worth(chance, levels=3):
    kind = chance.randrange(4 if levels else 3)
    if kind == 0:
        return chance.choice([0, 1, -1, 2, 3, 7, -7, 10, 10 ** 60 - 1, 1 - 10 ** 60, chance.randrange(-99, 99)])
    if kind in (1, 2):
        return "".join(chance.choice(SIGNS) for _ in range(chance.randrange(5)))
    return tuple(chance_worth(chance, levels - 1) for _ in range(chance.choice([0, 1, 2, 3, 4, 11])))


def chance_expression(chance, levels, bound, repeated=0):
    """A formed expression; it may have too many expressions, and is a rule else."""
    if levels == 0 or chance.random() < 0.12:
        if bound and chance.random() < 0.6:
            return ("var", chance.choice(bound))
        return ("lit", chance_worth(chance, 2))
    choices = list(FIXED) + ["let", "let", "list", "list", "look", "else", "+"]
    if repeated < 2:
        choices += ["each", "each", "over", "over"]
    word = chance.choice(choices)

    def inner(names=(), more=0):
        return chance_expression(chance, levels - 1, bound + list(names), repeated + more)

    if word == "let":
        name = chance.choice(VARIABLES)
        return ("let", name, inner(), inner([name]))
    if word == "each":
        name = chance.choice(VARIABLES)
        return ("each", name, chance_list(chance, inner), inner([name], 1))
    if word == "over":
        names = chance.sample(VARIABLES, 2)
        return ("over", names[0], names[1], chance_list(chance, inner), inner(), inner(names, 1))
    if word == "list":
        return ("list",) + tuple(inner() for _ in range(chance.randrange(4)))
    if word == "look" and chance.random() < 0.8:
        return ("look", ("lit", chance.choice(["a.b", "a.c", "no name", ""])))
    return (word,) + tuple(inner() for _ in range(FIXED[word]))


def chance_list(chance, inner):
    if chance.random() < 0.7:
        return ("lit", tuple(chance.randrange(5) for _ in range(chance.choice([0, 1, 2, 3, 10, 11]))))
    return inner()


def chance_outcome(chance):
    if chance.random() < 0.65:
        return ("made", chance_worth(chance, 2))
    word = chance.choice(["kind", "great", "nought", "place", "none", "shut", "cried"])
    if word in ("none", "shut"):
        return ("wrong", word, "a.b")
    return ("wrong", word, chance_worth(chance, 1) if word == "cried" else "")


def chance_rule_and_founds(chance):
    """A formed expression, and more founds than most of its runs look for."""
    rule = chance_expression(chance, chance.choice([2, 3, 4, 5]), [])
    return rule, [chance_outcome(chance) for _ in range(40)]


def spots(thing, way=()):
    """The ways to all that is within nested tuples, with the thing itself."""
    yield way
    if isinstance(thing, tuple):
        for place, item in enumerate(thing):
            yield from spots(item, way + (place,))


def at(thing, way):
    for place in way:
        thing = thing[place]
    return thing


def changed(thing, way, change):
    """Nested tuples with `change` done to what is at the end of the way."""
    if not way:
        return change(thing)
    place = way[0]
    return thing[:place] + (changed(thing[place], way[1:], change),) + thing[place + 1:]


# N is the place of a name.
HOUSE_RULES = [
    "1", "(cry 2)", '(look "N")', '(look "N")', '(+ (look "N") (look "N"))', '(list (look "N") (look "N"))', '(else (look "N") 5)',
    '(else (look "N") (look "N"))', '(if (look "N") (look "N") (look "N"))', '(if (less 1 (look "N")) (look "N") 7)',
    '(each x (lit ("N" "N" "N")) (look x))', '(each x (lit ("N" "N" "N")) (else (look x) 0))', '(each x (look "N") (look x))',
    '(over x y (lit ("N" "N")) 0 (+ y (look x)))', '(look (look "N"))', '(else (look (look "N")) (look "N"))', '(cry (look "N"))',
    '(count (look "N"))', '(let x (look "N") (list x x))', '(if 0 (look "N") (look "N"))', '(else 3 (look "N"))',
]


def house_of(sources=None, rules=None, opened=(), wishes=()):
    """A house of sources, and of rules by their texts."""
    house = House()
    for name, worth in (sources or {}).items():
        house.put(name, worth)
    for name, text in (rules or {}).items():
        house.put_rule(name, read_rule(text))
    for name in opened:
        house.open_up(name)
    for name in wishes:
        house.wish(name)
    return house


def shelf_of(rows):
    shelf = Shelf()
    for who, paper in rows:
        shelf.lay(who, paper)
    return shelf


def book_of(papers):
    book = Book()
    for name, right in papers.items():
        book.keep(name, right)
    return book


def paper(text, *founds):
    """The paper of the rule that is written so, with these founds."""
    return paper_of(read_rule(text), list(founds))


def chance_rule(chance, names):
    pieces = chance.choice(HOUSE_RULES).split("N")
    return read_rule(pieces[0] + "".join(chance.choice(names) + piece for piece in pieces[1:]))


def chance_house(chance, most=12):
    """A house of up to so many things in up to three rooms, some of them opened and wished, with others that are none."""
    rooms = ["a", "b", "c9"][:chance.choice([1, 2, 3])]
    names = [f"{chance.choice(rooms)}.t{number}" for number in range(chance.randrange(1, most + 1))]
    others = names + names + names + [rooms[0] + ".none", "d.none", "no name", ""]
    house = House()
    for name in names:
        if chance.random() < 0.25:
            house.put(name, chance.choice([0, 1, 2, chance.choice(others), (chance.choice(others), chance.choice(others))]))
        else:
            house.put_rule(name, chance_rule(chance, others))
    for name in chance.sample(names, chance.randrange(len(names) + 1)) + ["d.none"]:
        house.open_up(name)
    for name in chance.sample(names + ["d.none"], chance.randrange(min(len(names), 6) + 1)):
        house.wish(name)
    return house


def chance_paper(chance, house):
    """A right paper of some rule of the house, with founds of which some may be unlike those that are there; or None."""
    if not house.rules:
        return None
    name = chance.choice(sorted(house.rules))
    outcomes = plainly_made(house)[0]
    founds = []
    went = plainly_gone(house.rules[name], founds)
    while went[0] == "look" and len(founds) < 40:
        found = plain_found(house, name, went[1][-1], outcomes)
        if found is None or chance.random() < 0.3:
            found = chance.choice([chance_outcome(chance), ("made", chance.randrange(3)), ("made", "a.t1")])
        founds.append(found)
        went = plainly_gone(house.rules[name], founds)
    return plain_paper(house.rules[name], founds)


def chance_lie(chance, right):
    """Something that isn't this right paper, though it may be near to it."""
    if right is None or chance.random() < 0.2:
        return chance.choice([None, True, 0, "paper", (), (None, (), ()), (("lit", 1), (), (("made", True), ())), ((), (), ())])
    way = chance.choice(list(spots(right)))
    other = chance.choice([1, True, 0, "a.t2", "", None, (), ("made", 7), ("wrong", "kind", ""), ("lit", 7), ((), ())])
    return changed(right, way, lambda inner: other)


def chance_laid(chance, house):
    right = chance_paper(chance, house)
    return chance_lie(chance, right) if right is None or chance.random() < 0.5 else right


POOL = [f"{room}.t{number}" for room in ("a", "b") for number in range(5)]


def chance_deed(chance, house):
    """Something that hands may do to a house, whose things are all of the pool."""
    name = chance.choice(POOL)
    others = POOL + POOL + ["a.none", "d.none", "no name"]
    deed = chance.randrange(12)
    if deed < 3:
        house.put(name, chance.choice([0, 1, 2, chance.choice(others), (chance.choice(others), chance.choice(others))]))
    elif deed < 7:
        house.put_rule(name, chance_rule(chance, others))
    elif deed == 7 and (name in house.sources or name in house.rules):
        house.drop(name)
    elif deed in (8, 9):
        house.wish(name)
    else:
        chance.choice([house.open_up, house.open_up, house.shut, house.let_go])(name)
