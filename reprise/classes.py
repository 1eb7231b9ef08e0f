"""What follows from sayings: which places of a song are alike."""

from reprise.checks import check_length, check_place, check_sayings, check_stretch
from reprise.cuts import cuts_of
from reprise.errors import NoPlace
from reprise.follow import first_of, firsts_from
from reprise.stretches import breadth, kth, tidy, under


class Classes:
    """The places of a song with its sayings, and which of them are alike."""

    def __init__(self, length, sayings):
        check_length(length)
        check_sayings(length, sayings)
        self.size = length
        self.cuts = cuts_of(length, sayings)
        self.rows = tidy([(cut[0], cut[1]) for cut in self.cuts if cut[2] == 0])

    def length(self):
        """How many places the song has."""
        return self.size

    def count(self):
        """How many firsts there are."""
        return breadth(self.rows)

    def firsts(self):
        """The list of stretches of all firsts."""
        return list(self.rows)

    def first(self, place):
        """The least place that is alike to a place."""
        check_place(self.size, place)
        return first_of(self.cuts, place)

    def same(self, one, other):
        """Whether two places are alike."""
        return self.first(one) == self.first(other)

    def below(self, place):
        """How many firsts are less than a place, or than the length."""
        check_place(self.size + 1, place)
        return under(self.rows, place)

    def numbered(self, k):
        """The first that has k firsts below it."""
        place = kth(self.rows, k)
        if place is None:
            raise NoPlace("the song has no such first")
        return place

    def image(self, at, many):
        """The list of stretches of all firsts of the places of a stretch."""
        check_stretch(self.size, at, many)
        return firsts_from(self.cuts, at, at + many)
