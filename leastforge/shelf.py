"""The shelf: what was laid there as papers, right or not."""

from leastforge.papers import is_right, just_so


# What was laid doesn't change, so a run tells once for all whether it is right; copies of a shelf share that.
class Laid:
    def __init__(self, who, paper):
        self.row = (who, paper)
        self.right = None

    # The rule is compared first, as a run costs more; whether it is one at all is asked with the rest.
    def fits(self, rule):
        paper = self.row[1]
        if not isinstance(paper, tuple) or len(paper) != 3 or paper[0] != rule:
            return False
        if self.right is None:
            self.right = is_right(paper)
        return self.right


class Shelf:
    def __init__(self):
        self.laid = []

    def lay(self, who, paper):
        self.laid.append(Laid(who, paper))

    def lying(self):
        return [one.row for one in self.laid]

    def fitting(self, rule):
        return [one.row for one in self.laid if one.fits(rule)]

    def has(self, paper):
        return any([just_so(one.row[1], paper) for one in self.laid])

    def copy(self):
        other = Shelf()
        other.laid = list(self.laid)
        return other
