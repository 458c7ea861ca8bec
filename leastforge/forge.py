"""The forge: a house with its book and a shelf, and the reports of its makings."""

from leastforge.book import Book
from leastforge.house import House
from leastforge.making import Making
from leastforge.rings import told
from leastforge.shelf import Shelf


def how_ended(making):
    answers = {}
    for name in making.tasks:
        if making.tasks[name].how is not None:
            answers[name] = making.tasks[name].how
    return answers


class Report:
    def __init__(self, making):
        self.things = making.told_things()
        self.how = how_ended(making)
        self.waits = making.waiting()
        self.steps = making.steps
        self.stopped = len(making.ready()) > 0
        # Who waits in a making that was stopped may not wait for ever, so no ring is told then.
        self.told = told(making.house, self.things, {} if self.stopped else self.waits)


class Forge:
    def __init__(self, who, shelf=None):
        self.who = who
        self.house = House()
        self.book = Book()
        self.shelf = Shelf() if shelf is None else shelf

    def make(self, picks=None, most=None):
        making = Making(self.house, self.book, self.shelf)
        making.go(picks, most)
        for name in sorted(making.tasks):
            self.put_by(making.tasks[name])
        return Report(making)

    def put_by(self, task):
        if task.paper is None:
            return
        self.book.keep(task.name, task.paper)
        if task.how[0] == "done" and not self.shelf.has(task.paper):
            self.shelf.lay(self.who, task.paper)
