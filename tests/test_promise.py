"""Point 3 over rows of hands' deeds and makings, stopped or not, by any picks, from fixed seeds."""

import random
import unittest

from leastforge.forge import Forge
from leastforge.papers import is_right
from leastforge.rings import told
from leastforge.shelf import Shelf
from tests.reference import plain_found, plainly_made
from tests.samples import chance_deed, chance_laid


def copied(forge):
    """The same forge once more, with its own shelf."""
    other = Forge(forge.who, forge.shelf.copy())
    other.house = forge.house.copy()
    other.book = forge.book.copy()
    return other


class Promise(unittest.TestCase):
    def setUp(self):
        self.seen = {}

    def count(self, word):
        self.seen[word] = self.seen.get(word, 0) + 1

    def all_found_so(self, house, name, paper, outcomes):
        return all(plain_found(house, name, look, outcomes) == found for look, found in paper[1])

    def is_told_rightly(self, house, name, how, kept, rows, outcomes):
        """How a task ended beside what was kept in the book and lay on the shelf ahead of the making."""
        rule = house.rules[name]
        left = kept is not None and kept[0] == rule and self.all_found_so(house, name, kept, outcomes)
        fitting = [who for who, paper in rows
                   if is_right(paper) and repr(paper[0]) == repr(rule) and self.all_found_so(house, name, paper, outcomes)]
        self.assertEqual(how == ("left",), left)
        self.assertEqual(how[0] == "done", not left and not fitting)
        if how[0] == "taken":
            self.assertEqual(how, ("taken", fitting[0]))
        if how[0] == "done":
            self.reason_is_true(house, name, how[1], kept, outcomes)
        self.count(how[1][0] if how[0] == "done" else how[0])

    def reason_is_true(self, house, name, why, kept, outcomes):
        self.assertEqual(why == ("new",), kept is None)
        self.assertEqual(why == ("rule",), kept is not None and kept[0] != house.rules[name])
        if why[0] == "look":
            number, look, was, now = why[1:]
            self.assertEqual(kept[1][number], (look, was))
            self.assertNotEqual(was, now)
            self.assertEqual(plain_found(house, name, look, outcomes), now)
            for ahead, found in kept[1][:number]:
                self.assertEqual(plain_found(house, name, ahead, outcomes), found)

    def makes(self, forge, picks, most):
        """A making of the forge, with all that is promised of each one."""
        outcomes, waits = plainly_made(forge.house)
        book, rows = dict(forge.book.papers), forge.shelf.lying()
        report = forge.make(picks, most)
        for name, how in report.how.items():
            self.is_told_rightly(forge.house, name, how, book.get(name), rows, outcomes)
            self.assertEqual(report.things[name], outcomes[name])
        for name, paper in forge.book.papers.items():
            self.assertTrue(is_right(paper))
            self.assertEqual(paper == book.get(name) or name in report.how, True)
        self.laid_rightly(forge, report, rows)
        if not report.stopped:
            self.assertEqual((report.things, report.waits), (outcomes, waits))
            self.assertEqual(report.told, told(forge.house, outcomes, waits))
            self.assertEqual(set(report.how), set(outcomes) & set(forge.house.rules))
            self.count("ring" if waits else "over")
        else:
            self.count("stopped")
        return report

    def laid_rightly(self, forge, report, rows):
        lying = forge.shelf.lying()
        self.assertEqual(repr(lying[:len(rows)]), repr(rows))
        expected = []
        known = [repr(paper) for who, paper in rows]
        for name in sorted(report.how):
            paper = forge.book.papers[name]
            if report.how[name][0] == "done" and repr(paper) not in known:
                known.append(repr(paper))
                expected.append((forge.who, paper))
        self.assertEqual(lying[len(rows):], expected)

    def test_rows_of_deeds_and_makings(self):
        for seed in range(250):
            chance = random.Random(seed)
            shelf = Shelf()
            forges = [Forge("abe", shelf), Forge("zoe", shelf)]
            for forge in forges:
                for _ in range(25):
                    chance_deed(chance, forge.house)
            for _ in range(12):
                forge = chance.choice(forges)
                for _ in range(chance.randrange(4)):
                    chance_deed(chance, forge.house)
                if chance.random() < 0.5:
                    shelf.lay("liar", chance_laid(chance, chance.choice(forges).house))
                picks = [chance.randrange(20) for _ in range(chance.randrange(30))]
                self.makes(forge, picks, chance.choice([None, None, 0, 1, 4, 9, 20]))
        self.assertEqual(sorted(self.seen), ["left", "look", "new", "over", "ring", "rule", "stopped", "taken"])
        self.assertGreater(min(self.seen.values()), 80, self.seen)

    def test_picks_change_nothing_but_the_order(self):
        for seed in range(120):
            chance = random.Random(seed)
            forge = Forge("abe")
            for _ in range(30):
                chance_deed(chance, forge.house)
            for _ in range(4):
                if chance.random() < 0.5:
                    forge.shelf.lay("liar", chance_laid(chance, forge.house))
                others = [copied(forge) for _ in range(3)]
                report = forge.make()
                for other in others:
                    again = other.make([chance.randrange(20) for _ in range(chance.randrange(60))])
                    self.assertEqual((again.things, again.how, again.waits, again.steps, again.told),
                                     (report.things, report.how, report.waits, report.steps, report.told))
                    self.assertEqual(other.book.papers, forge.book.papers)
                    self.assertEqual(repr(other.shelf.lying()), repr(forge.shelf.lying()))
                for _ in range(3):
                    chance_deed(chance, forge.house)

    def test_a_shelf_changes_nothing_that_is_told(self):
        for seed in range(120):
            chance = random.Random(seed)
            forge, alone = Forge("abe"), Forge("abe")
            for _ in range(30):
                deed = chance.getrandbits(64)
                chance_deed(random.Random(deed), forge.house)
                chance_deed(random.Random(deed), alone.house)
            for _ in range(20):
                forge.shelf.lay("liar", chance_laid(chance, forge.house))
            for _ in range(3):
                one, other = forge.make(), alone.make()
                self.assertEqual((one.things, one.waits, one.told), (other.things, other.waits, other.told))
                self.assertEqual(forge.book.papers, alone.book.papers)
                deed = chance.getrandbits(64)
                chance_deed(random.Random(deed), forge.house)
                chance_deed(random.Random(deed), alone.house)

    def test_nothing_is_done_twice(self):
        stops = 0
        for seed in range(120):
            chance = random.Random(seed)
            forge = Forge("abe")
            for _ in range(40):
                chance_deed(chance, forge.house)
            ended = {}
            report = forge.make(None, chance.randrange(1, 8))
            while report.stopped:
                stops += 1
                for name in ended:
                    self.assertIn(report.how.get(name, ("left",)), [("left",)])
                ended.update(report.how)
                picks = [chance.randrange(20) for _ in range(20)]
                report = forge.make(picks, report.steps + chance.randrange(1, 4))
            for name in report.how:
                self.assertEqual(report.how[name] == ("left",), name in ended)
            self.assertEqual({how for how in forge.make().how.values()} - {("left",)}, set())
        self.assertGreater(stops, 100)


if __name__ == "__main__":
    unittest.main()
