"""Tasks: how one rule of a making comes to its paper, step by step."""

from leastforge.matching import first_otherwise, matched_beginning
from leastforge.papers import just_so, paper_of_run
from leastforge.runs import gone


def found_at(paper, place):
    return paper[1][place][1]


class Task:
    def __init__(self, name, rule, kept, rows):
        self.name = name
        self.needs = None
        self.founds = []
        self.paper = None
        self.how = None
        self.rule = rule
        self.kept = kept
        # Pairs of how the task would end and the paper; those alone that begin with the founds so far.
        self.ends = [(("taken", row[0]), row[1]) for row in rows]
        if self.has_kept_rule():
            self.ends.insert(0, (("left",), kept))

    def has_kept_rule(self):
        return self.kept is not None and just_so(self.kept[0], self.rule)

    def step(self, found=None):
        if self.needs is not None:
            self.take(found)
        answer = matched_beginning([end[1] for end in self.ends], len(self.founds))
        if answer[0] == "whole":
            self.finish(self.ends[answer[1]][0], self.ends[answer[1]][1])
        elif answer[0] == "look":
            self.needs = answer[1]
        else:
            self.run()

    # All these papers look on: with one that doesn't, the task would have ended.
    def take(self, found):
        place = len(self.founds)
        self.ends = [end for end in self.ends if found_at(end[1], place) == found]
        self.founds.append(found)
        self.needs = None

    def finish(self, how, paper):
        self.how = how
        self.paper = paper

    def run(self):
        went = gone(self.rule, self.founds)
        if went[0] == "look":
            self.needs = went[1][-1]
        else:
            self.finish(("done", self.why()), paper_of_run(self.rule, self.founds, went))

    def why(self):
        if self.kept is None:
            return ("new",)
        if not self.has_kept_rule():
            return ("rule",)
        place = first_otherwise(self.kept, self.founds)
        look = self.kept[1][place]
        return ("look", place, look[0], look[1], self.founds[place])
