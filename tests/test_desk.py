import random
import unittest

from leastforge.asks import rests_on, touched_by, way
from leastforge.desk import Desk
from leastforge.errors import ForgeError, NoName, NoRow, NoText, NoThing
from leastforge.forge import Forge
from leastforge.formtexts import show_rule
from leastforge.papertexts import show_outcome, show_paper
from leastforge.plain import plain
from leastforge.rings import ring_way
from leastforge.shelf import Shelf
from leastforge.shelftexts import read_shelf, show_shelf
from leastforge.worthtexts import show_worth
from tests.samples import POOL, chance_paper, chance_rule, paper, shelf_of

CHAIN = ["put a.s 5", 'rule a.q (* (look "a.s") 10)', 'rule a.r (+ (look "a.q") 1)', "wish a.r"]
Q5 = paper('(* (look "a.s") 10)', ("made", 5))
R50 = paper('(+ (look "a.q") 1)', ("made", 50))


def state(desk):
    house = desk.forge.house
    report = desk.report
    return repr((house.sources, house.rules, house.opened, house.wishes, desk.forge.book.papers, desk.forge.shelf.lying(),
                 None if report is None else (report.things, report.how, report.waits, report.steps, report.stopped, report.told)))


class Desks(unittest.TestCase):
    def setUp(self):
        self.desk = Desk()

    def says(self, row, answer):
        found = self.desk.say(row)
        self.assertEqual(found, answer, row)
        self.assertIs(type(found), str)

    def does(self, *rows):
        for row in rows:
            self.says(row, "ok")

    def refused(self, error, *rows):
        for row in rows:
            before = state(self.desk)
            with self.assertRaises(ForgeError, msg=row) as caught:
                self.desk.say(row)
            self.assertIs(type(caught.exception), error, row)
            self.assertEqual(state(self.desk), before, row)


class Deeds(Desks):
    def test_a_new_desk(self):
        self.assertIsInstance(self.desk.forge, Forge)
        self.assertEqual(self.desk.forge.who, "desk")
        self.assertEqual(Desk("abe").forge.who, "abe")
        shelf = Shelf()
        self.assertIs(Desk("abe", shelf).forge.shelf, shelf)
        self.assertIsNot(Desk().forge.shelf, Desk().forge.shelf)

    def test_put(self):
        self.does("put a.s 5", 'put a.t "a b"', "put a.u (1 (2 3))")
        self.assertEqual(self.desk.forge.house.sources, {"a.s": 5, "a.t": "a b", "a.u": (1, (2, 3))})
        # Text in any writing that is read, with more blanks and line feeds.
        self.does("put a.s  6 ", "put a.t \n( 1\n\n2 ) \n", 'put a.u ""')
        self.assertEqual(self.desk.forge.house.sources, {"a.s": 6, "a.t": (1, 2), "a.u": ""})

    def test_rule(self):
        self.does("rule a.r 1", 'rule a.q (look "a b")', "rule a.p  ( let x\n1 x )")
        self.assertEqual(self.desk.forge.house.rules, {"a.r": ("lit", 1), "a.q": ("look", ("lit", "a b")),
                                                       "a.p": ("let", "x", ("lit", 1), ("var", "x"))})

    def test_one_in_the_place_of_the_other(self):
        self.does("put a.r 1", "rule a.r 2")
        self.assertEqual((self.desk.forge.house.sources, self.desk.forge.house.rules), ({}, {"a.r": ("lit", 2)}))
        self.does("put a.r 3")
        self.assertEqual((self.desk.forge.house.sources, self.desk.forge.house.rules), ({"a.r": 3}, {}))

    def test_drop(self):
        self.does("put a.s 1", "rule a.r 2", "drop a.s")
        self.assertEqual((self.desk.forge.house.sources, self.desk.forge.house.rules), ({}, {"a.r": ("lit", 2)}))
        self.does("drop a.r")
        self.assertEqual((self.desk.forge.house.sources, self.desk.forge.house.rules), ({}, {}))

    def test_open_and_shut(self):
        self.does("open a.s", "open b.s", "open a.s")
        self.assertEqual(sorted(self.desk.forge.house.opened), ["a.s", "b.s"])
        self.does("shut a.s", "shut a.s", "shut n.n")
        self.assertEqual(self.desk.forge.house.opened, ["b.s"])

    def test_wish_and_let(self):
        self.does("wish b.s", "wish a.s", "wish b.s")
        self.assertEqual(self.desk.forge.house.wishes, ["b.s", "a.s"])
        self.does("let b.s", "let b.s", "let n.n")
        self.assertEqual(self.desk.forge.house.wishes, ["a.s"])

    def test_lay(self):
        lie = (("lit", 1), (), (("made", 2), ()))
        self.does("lay abe " + show_paper(Q5), "lay liar  " + show_paper(lie).replace(" ", "\n"), "lay abcdefghijkl " + show_paper(R50) + " ")
        self.assertEqual(self.desk.forge.shelf.lying(), [("abe", Q5), ("liar", lie), ("abcdefghijkl", R50)])

    def test_shelf(self):
        self.says("shelf", "")
        self.does(*CHAIN, "lay abe " + show_paper(paper("1")))
        self.desk.forge.shelf.lay("odd one", None)
        self.says("make", "over 4")
        self.says("shelf", "\n".join(["(lay " + row for row in ['"abe" ' + show_paper(paper("1")) + ")", '"desk" ' + show_paper(Q5) + ")",
                                                               '"desk" ' + show_paper(R50) + ")"]]))


class Answers(Desks):
    def test_ahead_of_any_making(self):
        self.does(*CHAIN)
        for name in ("a.s", "a.r", "a.q", "n.n"):
            self.says("tell " + name, "unknown")
            self.says("how " + name, "unknown")
            self.says("way " + name, name)
            self.says("rests " + name, "")

    def test_behind_one_that_was_over(self):
        self.does(*CHAIN, "put a.t 7", "rule a.z 1")
        self.says("make", "over 4")
        for name, told, how, rests in [("a.s", "(made 5)", "unknown", ""), ("a.q", "(made 50)", "new", "a.s"),
                                       ("a.r", "(made 51)", "new", "a.q a.s"), ("a.t", "unknown", "unknown", ""),
                                       ("a.z", "unknown", "unknown", ""), ("n.n", "unknown", "unknown", "")]:
            self.says("tell " + name, told)
            self.says("how " + name, how)
            self.says("way " + name, name)
            self.says("rests " + name, rests)

    def test_wished_sources_and_nothing(self):
        self.does("put a.s (1 2)", "wish a.s", "wish n.n")
        self.says("make", "over 0")
        self.says("tell a.s", "(made (1 2))")
        # It is no thing, so it isn't come to.
        self.says("tell n.n", "unknown")

    def test_steps(self):
        for most, answer in [("0", "stopped 0"), ("1", "stopped 1"), ("3", "stopped 3"), ("4", "over 4"), ("10", "over 4"),
                             ("100", "over 4"), ("9999", "over 4")]:
            self.desk = Desk()
            self.does(*CHAIN)
            self.says("make " + most, answer)

    def test_behind_one_that_was_stopped(self):
        self.does(*CHAIN, "put a.t 6", "wish a.t")
        self.says("make 2", "stopped 2")
        self.says("tell a.r", "unknown")
        self.says("tell a.t", "(made 6)")
        self.says("tell a.s", "unknown")
        self.says("make 3", "stopped 3")
        self.says("tell a.r", "unknown")
        self.says("tell a.q", "(made 50)")
        self.says("tell a.s", "(made 5)")
        self.says("how a.q", "new")
        self.says("how a.r", "unknown")
        self.says("rests a.q", "a.s")
        self.says("rests a.r", "")
        self.says("make", "over 4")
        self.says("how a.q", "left")
        self.says("how a.r", "new")

    def test_the_last_making_alone(self):
        self.does(*CHAIN)
        self.says("make", "over 4")
        self.says("make 0", "stopped 0")
        for name in ("a.r", "a.q", "a.s"):
            self.says("tell " + name, "unknown")
            self.says("how " + name, "unknown")
        self.says("rests a.r", "a.q a.s")

    def test_behind_deeds(self):
        self.does(*CHAIN)
        self.says("make", "over 4")
        self.does("put a.s 6", "drop a.q", "rule a.r 1", "let a.r")
        self.says("tell a.r", "(made 51)")
        self.says("tell a.q", "(made 50)")
        self.says("tell a.s", "(made 5)")
        self.says("how a.q", "new")
        self.says("rests a.r", "a.q a.s")

    def test_how(self):
        self.does(*CHAIN)
        self.says("make", "over 4")
        self.says("make", "over 4")
        self.says("how a.r", "left")
        self.does("put a.s 6")
        self.says("make", "over 4")
        self.says("how a.q", "look a.s")
        self.says("how a.r", "look a.q")
        self.does("put a.s 5")
        self.says("make", "over 4")
        self.says("how a.q", "taken desk")
        self.does('rule a.r (look "no name")')
        self.says("make", "over 2")
        self.says("how a.r", "rule")
        self.says("how a.q", "unknown")

    def test_how_by_a_look_at_no_name(self):
        self.does('rule a.r (else (look (look "a.s")) 1)', 'put a.s "no name"', "wish a.r")
        self.desk.forge.book.keep("a.r", paper('(else (look (look "a.s")) 1)', ("made", "no name"), ("made", 3)))
        self.says("make", "over 3")
        self.says("how a.r", "look no name")
        self.says("rests a.r", "a.s no name")

    def test_tell_wrong(self):
        self.does('rule a.r (look "a.q")', 'rule a.q (cry (list 1 "x"))', "rule a.p (/ 1 0)", 'rule a.o (look "b.s")', "put b.s 1")
        self.does("wish a.r", "wish a.p", "wish a.o")
        self.says("make", "over 6")
        self.says("tell a.r", '(wrong cried (1 "x"))')
        self.says("tell a.p", '(wrong nought "")')
        self.says("tell a.o", '(wrong shut "b.s")')
        self.says("tell b.s", "unknown")
        self.says("way a.r", "a.r a.q")
        self.says("way a.q", "a.q")
        self.says("way a.o", "a.o b.s")

    def test_way_by_house_and_book_as_they_are(self):
        self.does('rule a.r (look "a.q")', 'rule a.q (look "no name")', "wish a.r")
        self.says("make", "over 4")
        self.says("way a.r", "a.r a.q no name")
        self.says("rests a.r", "a.q no name")
        self.does("drop a.q")
        self.says("way a.r", "a.r a.q")
        self.does("put a.r 1")
        self.says("way a.r", "a.r")
        self.says("rests a.r", "a.q no name")

    def test_rings(self):
        self.does('rule a.p (look "a.q")', 'rule a.q (+ (look "a.s") (look "a.p"))', 'rule a.o (look "a.p")', "put a.s 1", "wish a.o")
        self.says("make 3", "stopped 3")
        self.says("tell a.o", "unknown")
        self.says("tell a.p", "unknown")
        self.says("make", "over 4")
        self.says("tell a.o", "ring a.o a.p a.q a.p")
        self.says("tell a.p", "ring a.p a.q a.p")
        self.says("tell a.q", "ring a.q a.p a.q")
        self.says("tell a.s", "(made 1)")
        self.says("how a.p", "unknown")
        self.does('rule a.w (look "a.w")', "wish a.w")
        self.says("make", "over 5")
        self.says("tell a.w", "ring a.w a.w")

    def test_a_ring_amid_a_stopped_making(self):
        self.does('rule a.p (look "a.p")', "rule a.q 1", "wish a.p", "wish a.q")
        self.says("make 1", "stopped 1")
        self.says("tell a.p", "unknown")
        self.says("make", "over 2")
        self.says("tell a.p", "ring a.p a.p")

    def test_laid_papers(self):
        lie = Q5[:2] + paper("7")[2:]
        self.does(*CHAIN, "lay liar " + show_paper(lie), "lay abe " + show_paper(Q5), "lay zoe " + show_paper(Q5))
        self.says("make", "over 4")
        self.says("how a.q", "taken abe")
        self.says("how a.r", "new")
        self.says("tell a.r", "(made 51)")
        self.desk = Desk()
        self.does(*CHAIN, "lay liar " + show_paper(lie), "lay liar " + show_paper(paper('(* (look "a.s") 10)', ("made", 6))))
        self.says("make", "over 4")
        self.says("how a.q", "new")
        self.says("tell a.q", "(made 50)")

    def test_a_shared_shelf(self):
        shelf = Shelf()
        abe, zoe = Desk("abe", shelf), Desk("zoe", shelf)
        for desk in (abe, zoe):
            for row in CHAIN:
                desk.say(row)
        self.assertEqual((abe.say("make"), zoe.say("make")), ("over 4", "over 4"))
        self.assertEqual((abe.say("how a.r"), zoe.say("how a.r")), ("new", "taken abe"))
        self.assertEqual(abe.say("shelf"), zoe.say("shelf"))
        zoe.say("lay bob " + show_paper(paper("1")))
        self.assertEqual(len(abe.say("shelf").split("\n")), 3)

    def test_who_of_any_signs(self):
        self.desk = Desk("me", shelf_of([("a (b) ~", Q5), ("", R50)]))
        self.does(*CHAIN)
        self.says("make", "over 4")
        self.says("how a.q", "taken a (b) ~")
        self.says("how a.r", "taken ")


class Refused(Desks):
    def setUp(self):
        self.desk = Desk()
        self.does(*CHAIN)
        self.says("make 3", "stopped 3")

    def test_no_row(self):
        self.refused(NoRow, "", " ", "  ", "\n", "\t", "puts a.b 1", "Put a.b 1", "PUT a.b 1", "a.b", "1", "look a.b", "near a.b",
                     "ok", "over 4", "put\ta.b 1", "put\na.b 1", "make\n", "shelf\n", "shelf\t", "put_rule a.b 1", "unwish a.b", "quit")

    def test_a_word_too_few(self):
        self.refused(NoRow, *["put", "rule", "drop", "open", "shut", "wish", "let", "tell", "how", "way", "rests", "lay"])
        self.refused(NoRow, *["put ", "rule ", "drop ", "open ", "shut ", "wish ", "let ", "tell ", "how ", "way ", "rests ", "lay ", "make ",
                              "shelf "])
        self.refused(NoRow, "put a.b", "rule a.b", "lay abe", "put 1", "rule 1", "lay " + show_paper(Q5).replace(" ", "\n"))

    def test_a_word_more(self):
        for word in ("drop", "open", "shut", "wish", "let", "tell", "how", "way", "rests"):
            self.refused(NoRow, f"{word} a.r a.q", f"{word} a.r 1", f"{word} a.r ", f"{word} a.r  ")
        self.refused(NoRow, "make 1 1", "make 1 ", "make a.r", "make all", "shelf 1", "shelf a.r", "shelf  ")

    def test_blanks(self):
        for row in ("put a.b 1", "rule a.b 1", "drop a.r", "open a.b", "shut a.b", "wish a.b", "let a.r", "make", "make 5", "tell a.r",
                    "how a.r", "way a.r", "rests a.r", "lay abe " + show_paper(Q5), "shelf"):
            self.refused(NoRow, " " + row, "  " + row, row.replace(" ", "  ", 1) if " " in row else row + " ")
            if row.split(" ")[0] not in ("put", "rule", "lay"):
                self.refused(NoRow, row + " ", row + "  ")
        self.refused(NoRow, "put  1", "rule  1", "put  ", "lay  " + show_paper(Q5))

    def test_numbers_of_steps(self):
        self.refused(NoRow, *["make " + most for most in (
            "00", "01", "007", "0000", "+1", "-1", "-0", "-", "12345", "10000", "99999", "1.0", "1e3", "x", "1x", "x1", '"1"', "(1)", "1\n",
            "\n1", "1\t", "1_0", "none", "None")])

    def test_who(self):
        right = show_paper(Q5)
        self.refused(NoRow, *[f"lay {who} {right}" for who in (
            "Abe", "ABE", "abE", "abe1", "1", "abcdefghijklm", "a" * 400, "a.b", "a_b", '"abe"', "a-b", "(abe)", "abe\n", "\tabe", "a~")])
        self.refused(NoRow, "lay Abe no paper", "lay abe1 ")

    def test_no_name(self):
        for word in ("drop", "open", "shut", "wish", "let", "tell", "how", "way", "rests"):
            self.refused(NoName, *[f"{word} {name}" for name in (
                "a", "a.", ".a", ".", "a.b.c", "A.b", "a.B", "a_b.c", "abcdefghijklm.a", "a.abcdefghijklm", "a.b\n", "\na.b", "a\t.b",
                '"a.b"', "(a.b)", "1", "a..b", "a.b,")])
        for word in ("put", "rule"):
            self.refused(NoName, *[f"{word} {name} 1" for name in ("a", "A.b", "a.b\n", "a.b.c", '"a.b"', "1", "1.", "\na.b")])

    def test_no_text(self):
        self.refused(NoText, *["put a.b " + text for text in ("", " ", "\n", "x", "-0", "007", "+1", "1 2", "(1", '"a', "(1 2) 3", "(+ 1 2)",
                                                              "1\t", '"' + "a" * 401 + '"', "9" * 61, "5,", "((1))(")])
        self.refused(NoText, *["rule a.b " + text for text in ("", " ", "x", "(+ 1)", "(lit 1)", "(let x 1 y)", "(look", "1 2", "(1 2)", "()",
                                                               "\t1", "(+ 1 2))", "(paper 1 (looks) ((made 1)))")])
        self.refused(NoText, *["lay abe " + text for text in ("", " ", "1", "(paper)", "(paper 1 (looks) ())", show_paper(Q5)[:-1],
                                                              show_paper(Q5) + " 1", "\t" + show_paper(Q5), show_paper(Q5) * 2,
                                                              '(lay "abe" ' + show_paper(Q5) + ")", '"abe" ' + show_paper(Q5))])

    def test_no_thing(self):
        self.refused(NoThing, "drop a.none", "drop n.n", "drop a.b")
        self.does("drop a.s", "open a.s", "wish a.s")
        self.refused(NoThing, "drop a.s")

    def test_which_comes_first(self):
        self.refused(NoRow, "put a", "put A.b", "drop n.n ", "drop a b", "rule a.b.c", "lay A (", "drop  n.n", "put  x", "tell A.b 1")
        self.refused(NoName, "put a x", "put A.b ", "put a.b.c (", "rule a (+ 1)", "rule 1 ", "drop n", "drop N.n")
        self.refused(NoText, "put a.none x", "rule a.none x")

    def test_no_other_refusal(self):
        rows = CHAIN + ["drop a.s", "open a.s", "shut a.s", "let a.r", "make", "make 12", "tell a.r", "how a.r", "way a.r", "rests a.r",
                        "lay abe " + show_paper(paper("1")), "shelf"]
        seen = set()
        for seed in range(3000):
            chance = random.Random(seed)
            row = chance.choice(rows)
            for _ in range(chance.randrange(3)):
                place = chance.randrange(len(row) + 1)
                row = row[:place] + chance.choice(' \n\t()"aA.0~') * chance.randrange(2) + row[place + chance.randrange(3):]
            before = state(self.desk)
            try:
                self.assertIs(type(self.desk.say(row)), str)
            except ForgeError as error:
                seen.add(type(error))
                self.assertEqual(state(self.desk), before)
        self.assertEqual(seen, {NoRow, NoName, NoText, NoThing})


class Sessions(Desks):
    """Rows told to a desk from fixed seeds, beside a forge that is handled itself."""

    def chance_row(self, chance, forge):
        name = chance.choice(POOL)
        others = POOL + POOL + ["a.none", "d.none", "no name"]
        deed = chance.randrange(14)
        if deed < 3:
            worth = chance.choice([0, 1, 2, chance.choice(others), (chance.choice(others), chance.choice(others))])
            forge.house.put(name, worth)
            return f"put {name} {show_worth(worth)}", name
        if deed < 7:
            rule = chance_rule(chance, others)
            forge.house.put_rule(name, rule)
            return f"rule {name} {show_rule(rule)}", name
        if deed == 7 and (name in forge.house.sources or name in forge.house.rules):
            forge.house.drop(name)
            return f"drop {name}", name
        if deed in (8, 9):
            forge.house.wish(name)
            return f"wish {name}", None
        if deed == 10:
            laid = chance_paper(chance, forge.house)
            if laid is None or chance.random() < 0.3:
                laid = (("lit", 1), (), (("made", chance.randrange(9)), ()))
            forge.shelf.lay("liar", laid)
            return f"lay liar {show_paper(laid)}", None
        word, do = chance.choice([("open", forge.house.open_up), ("open", forge.house.open_up), ("shut", forge.house.shut),
                                  ("let", forge.house.let_go)])
        do(name)
        return f"{word} {name}", None if word == "let" else name

    def test_beside_a_forge_and_the_plain_maker(self):
        self.seen = {}
        for seed in range(200):
            chance = random.Random(seed)
            self.desk, forge = Desk("abe"), Forge("abe")
            for _ in range(40):
                self.does(self.chance_row(chance, forge)[0])
            for _ in range(6):
                most = chance.choice([None, None, 0, 2, 7, 15])
                report = forge.make(None, most)
                self.says("make" if most is None else f"make {most}", f"{'stopped' if report.stopped else 'over'} {report.steps}")
                self.answers_rightly(forge, report)
                for _ in range(chance.randrange(1, 4)):
                    self.does(self.chance_row(chance, forge)[0])
                # Of what was made the same is told as ahead of the deeds; ways and what they rest on are of now.
                self.answers_as_reported(report)
                self.ways_and_rests(forge)
        for word in ("left", "taken", "new", "rule", "look", "ring", "unknown", "(wrong"):
            self.assertGreater(self.seen.get(word, 0), 30, self.seen)

    def answers_rightly(self, forge, report):
        self.answers_as_reported(report)
        self.ways_and_rests(forge)
        self.says("shelf", show_shelf(forge.shelf))
        if report.stopped:
            return
        outcomes, waits = plain(forge.house)
        for name in POOL:
            if name in outcomes:
                self.says("tell " + name, show_outcome(outcomes[name]))
                names = self.desk.say("way " + name).split(" ")
                self.assertTrue(outcomes[name][0] == "wrong" or names == [name])
            elif name in waits:
                self.says("tell " + name, "ring " + " ".join(ring_way(waits, name)))
            else:
                self.says("tell " + name, "unknown")

    def answers_as_reported(self, report):
        for name in POOL + ["n.n"]:
            told = self.desk.say("tell " + name)
            if name in report.things:
                self.assertEqual(told, show_outcome(report.things[name]))
            elif name in report.waits and not report.stopped:
                self.assertEqual(told, " ".join(["ring"] + ring_way(report.waits, name)))
            else:
                self.assertEqual(told, "unknown")
            how = report.how.get(name, ("unknown",))
            if how[0] == "done":
                how = (how[1][0],) + how[1][2:3]
            self.says("how " + name, " ".join(how))
            for word in (told.split(" ")[0], how[0]):
                self.seen[word] = self.seen.get(word, 0) + 1

    def ways_and_rests(self, forge):
        for name in POOL + ["n.n"]:
            self.says("way " + name, " ".join(way(forge.book, forge.house, name)))
            self.says("rests " + name, " ".join(rests_on(forge.book, name)))

    def test_what_is_not_touched_is_left(self):
        left = 0
        for seed in range(300):
            chance = random.Random(seed)
            self.desk, forge = Desk(), Forge("desk")
            for _ in range(30):
                self.does(self.chance_row(chance, forge)[0])
            for _ in range(3):
                self.desk.say("make")
                ahead = [name for name in POOL if self.desk.say("how " + name) != "unknown"]
                row, name = self.chance_row(chance, forge)
                touched = [] if name is None else [name] + touched_by(self.desk.forge.book, name)
                self.does(row)
                self.desk.say("make")
                for other in ahead:
                    if other not in touched and self.desk.say("how " + other) != "unknown":
                        self.says("how " + other, "left")
                        left += 1
        self.assertGreater(left, 500)

    def test_a_shelf_by_its_text(self):
        taken = 0
        for seed in range(100):
            chance = random.Random(seed)
            self.desk, forge = Desk("abe"), Forge("abe")
            rows = [self.chance_row(chance, forge)[0] for _ in range(45)]
            for row in rows:
                self.desk.say(row)
            steps = self.desk.say("make")
            text = self.desk.say("shelf")
            other = Desk("zoe", read_shelf(text))
            for row in rows:
                if not row.startswith("lay"):
                    other.say(row)
            self.assertEqual(other.say("make"), steps)
            for name in POOL:
                self.assertEqual(other.say("tell " + name), self.desk.say("tell " + name))
                self.assertIn(other.say("how " + name).split(" ")[0], ("unknown", "taken"))
                taken += other.say("how " + name) != "unknown"
            self.assertEqual(other.say("shelf"), text)
        self.assertGreater(taken, 150)

    def test_the_same_again(self):
        for seed in range(30):
            chance = random.Random(seed)
            self.desk, forge = Desk(), Forge("desk")
            for _ in range(30):
                self.does(self.chance_row(chance, forge)[0])
            self.desk.say("make 12")
            asked = [f"{word} {name}" for word in ("tell", "how", "way", "rests") for name in POOL] + ["shelf"]
            first = [self.desk.say(row) for row in asked]
            self.refused(NoRow, "make it")
            self.assertEqual([self.desk.say(row) for row in reversed(asked)], first[::-1])


if __name__ == "__main__":
    unittest.main()
