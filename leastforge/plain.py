"""The plain maker: it makes what is wished, all anew."""

from leastforge.runs import record_of


# What a run has to look with: it finds what is to be had by now, and waits where that is nothing.
class PlainLooks:
    def __init__(self, house, looker, outcomes):
        self.house = house
        self.looker = looker
        self.outcomes = outcomes
        self.names = []

    def look(self, name):
        self.names.append(name)
        return self.house.found(self.looker, name, self.outcomes)


# A rule that was come to is in waits until it has an outcome: with None where it was not run as yet.
class Maker:
    def __init__(self, house):
        self.house = house
        self.outcomes = {}
        self.waits = {}

    def come_to(self, name):
        if name in self.house.sources:
            self.outcomes[name] = ("made", self.house.sources[name])
        if name in self.house.rules and name not in self.outcomes:
            self.waits.setdefault(name, None)

    def able(self):
        return [name for name in self.waits if self.waits[name] is None or self.waits[name] in self.outcomes]

    # What was found in an earlier try is found so again, so the rule may be run from its beginning.
    def try_rule(self, name):
        looks = PlainLooks(self.house, name, self.outcomes)
        outcome = record_of(looks, self.house.rules[name], {})[0]
        for other in looks.names:
            if self.house.may(name, other):
                self.come_to(other)
        if outcome is None:
            self.waits[name] = looks.names[-1]
        else:
            self.waits.pop(name)
            self.outcomes[name] = outcome


def plain(house):
    maker = Maker(house)
    for name in house.wishes:
        maker.come_to(name)
    able = maker.able()
    while len(able) > 0:
        for name in able:
            maker.try_rule(name)
        able = maker.able()
    return (maker.outcomes, maker.waits)
