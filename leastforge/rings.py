"""Rings: the ways of rules that wait for ever, and what is told of each wish."""


def ring_way(waits, name):
    way = []
    while name not in way:
        way.append(name)
        name = waits[name]
    way.append(name)
    return way


def told_of(house, outcomes, waits, wish):
    if wish in waits:
        return ("ring", tuple(ring_way(waits, wish)))
    return house.found(None, wish, outcomes)


def told(house, outcomes, waits):
    answers = {}
    for wish in house.wishes:
        answers[wish] = told_of(house, outcomes, waits, wish)
    return answers
