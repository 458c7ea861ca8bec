"""Matching: which of some right papers with one rule has just these founds, or where such a one looks next."""

from leastforge.papers import founds_of, just_so


def first_otherwise(paper, founds):
    for place, pair in enumerate(zip(founds_of(paper), founds)):
        if not just_so(pair[0], pair[1]):
            return place
    return None


def begins_with(paper, founds):
    return len(paper[1]) >= len(founds) and first_otherwise(paper, founds) is None


# Of papers that all begin with the same founds, so many.
def matched_beginning(papers, count):
    for number, paper in enumerate(papers):
        if len(paper[1]) == count:
            return ("whole", number)
    return ("look", papers[0][1][count][0]) if len(papers) > 0 else ("none",)


def matched(papers, founds):
    numbers = [number for number, paper in enumerate(papers) if begins_with(paper, founds)]
    answer = matched_beginning([papers[number] for number in numbers], len(founds))
    return ("whole", numbers[answer[1]]) if answer[0] == "whole" else answer
