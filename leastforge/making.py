"""A making: the tasks of the rules that are needed for the wishes, one step after the other."""

from leastforge.errors import NoStep
from leastforge.papers import outcome_of
from leastforge.tasks import Task


# In things is what may be told so far: the outcomes of tasks that ended, and of sources.
class Making:
    def __init__(self, house, book, shelf):
        self.house = house.copy()
        self.book = book.copy()
        self.shelf = shelf.copy()
        self.steps = 0
        self.tasks = {}
        self.things = {}
        for name in self.house.wishes:
            self.tell_source(name)
            self.begin(name)

    def tell_source(self, name):
        if name in self.house.sources:
            self.things[name] = ("made", self.house.sources[name])

    def begin(self, name):
        if name in self.house.rules and name not in self.tasks:
            rule = self.house.rules[name]
            self.tasks[name] = Task(name, rule, self.book.paper_of(name), self.shelf.fitting(rule))

    def found_by(self, task):
        return self.house.found(task.name, task.needs, self.things)

    def is_ready(self, task):
        if task.paper is not None:
            return False
        return task.needs is None or self.found_by(task) is not None

    def ready(self):
        return [name for name in self.tasks if self.is_ready(self.tasks[name])]

    def step(self, pick=0):
        return self.step_among(self.ready(), pick)

    def step_among(self, names, pick):
        if len(names) == 0:
            raise NoStep("no task is ready")
        name = names[pick % len(names)]
        self.step_task(self.tasks[name])
        self.steps += 1
        return name

    def step_task(self, task):
        if task.needs is None:
            task.step()
        else:
            if self.house.may(task.name, task.needs):
                self.tell_source(task.needs)
            task.step(self.found_by(task))
        if task.paper is not None:
            self.things[task.name] = outcome_of(task.paper)
        elif self.house.may(task.name, task.needs):
            self.begin(task.needs)

    def go(self, picks=None, most=None):
        given = [] if picks is None else picks
        done = 0
        names = self.ready()
        while len(names) > 0 and (most is None or done < most):
            self.step_among(names, given[done] if done < len(given) else 0)
            done += 1
            names = self.ready()
        return done

    def told_things(self):
        return dict(self.things)

    def is_waiting(self, task):
        return task.paper is None and not self.is_ready(task)

    def waiting(self):
        answers = {}
        for name in self.tasks:
            if self.is_waiting(self.tasks[name]):
                answers[name] = self.tasks[name].needs
        return answers
