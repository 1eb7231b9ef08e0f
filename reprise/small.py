"""Songs so small that one may go along their places: lists of firsts, and ways."""

from reprise.checks import check_length, check_place, check_sayings
from reprise.classes import Classes
from reprise.pairs import beside


def each_first(length, sayings):
    """The list of firsts: for each place, from 0 on, its first."""
    classes = Classes(length, sayings)
    return [classes.first(place) for place in range(length)]


def wrong(length, sayings, told):
    """The least place at which a told list of firsts is wrong, or None."""
    for place, first in enumerate(each_first(length, sayings)):
        if told[place:place + 1] != [first]:
            return place
    return None


def came_from(sayings, one):
    """For each place to which steps lead from a place, the place ahead of it and its saying.

    Places are reached in rounds, each by one step more, so each by as few as can be.
    """
    came = {one: None}
    reached = [one]
    while reached:
        fresh = []
        for place in reached:
            for k, saying in enumerate(sayings):
                for to in beside(saying, place):
                    if to not in came:
                        came[to] = (place, k)
                        fresh.append(to)
        reached = fresh
    return came


def path(length, sayings, one, other):
    """A way of as few steps as can be from a place to another one, or None."""
    check_length(length)
    check_sayings(length, sayings)
    check_place(length, one)
    check_place(length, other)
    came = came_from(sayings, one)
    if other not in came:
        return None
    steps = []
    place = other
    while place != one:
        ahead, k = came[place]
        steps.append((k, place))
        place = ahead
    steps.reverse()
    return steps


def leads(length, sayings, one, steps):
    """The place to which steps lead from a place, or None where one of them is none."""
    check_length(length)
    check_sayings(length, sayings)
    check_place(length, one)
    place = one
    for k, to in steps:
        if k < 0 or k >= len(sayings) or to not in beside(sayings[k], place):
            return None
        place = to
    return place
