"""The book: of each name the last paper that was kept."""


class Book:
    def __init__(self):
        self.papers = {}

    def keep(self, name, paper):
        self.papers[name] = paper

    def paper_of(self, name):
        return self.papers.get(name)

    def copy(self):
        other = Book()
        other.papers = dict(self.papers)
        return other
