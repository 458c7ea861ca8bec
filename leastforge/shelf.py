"""The shelf: what was laid there as papers, right or not."""

from leastforge.papers import is_right, just_so


# The rule is compared first, as a run costs more.
def fits(paper, rule):
    if not isinstance(paper, tuple) or len(paper) != 3:
        return False
    return just_so(paper[0], rule) and is_right(paper)


class Shelf:
    def __init__(self):
        self.rows = []

    def lay(self, who, paper):
        self.rows.append((who, paper))

    def lying(self):
        return list(self.rows)

    def fitting(self, rule):
        return [row for row in self.rows if fits(row[1], rule)]

    def has(self, paper):
        return any([just_so(row[1], paper) for row in self.rows])

    def copy(self):
        other = Shelf()
        other.rows = list(self.rows)
        return other
