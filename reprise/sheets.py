"""What a book holds at one time: a sheet, of which each deed makes another one."""

from reprise.checks import check_length, check_memory, check_sayings
from reprise.errors import BadLength, Full, InUse, NoNumber

MOST = 24


def place_of(rows, number):
    """The place in a list of the row that has a number."""
    for k, row in enumerate(rows):
        if row[0] == number:
            return k
    raise NoNumber("nothing of this kind has the number")


def without(rows, number):
    """The rows but for the one that has a number."""
    k = place_of(rows, number)
    return rows[:k] + rows[k + 1:]


def unnumbered(rows):
    """The sayings alone, of rows (number, one, other, many, turned)."""
    return [(one, other, many, turned) for number, one, other, many, turned in rows]


def check_room(rows):
    """Refuse one more where there are as many as a book takes."""
    if len(rows) >= MOST:
        raise Full("the book takes no more of these")


def check_change(many):
    """Refuse a change of the length by fewer places than one."""
    if many < 1:
        raise BadLength("a song grows or shrinks by one place or more")


class Sheet:
    """A length, the next number, sayings and memories, both rising by their numbers.

    It never changes, nor do its lists: so a book can turn back to it, and twins can
    have it in common.
    """

    def __init__(self, size, upcoming, said, noted):
        self.size = size
        self.upcoming = upcoming
        self.said = said
        self.noted = noted

    def with_saying(self, row):
        """One more saying, whose number is above all others."""
        check_sayings(self.size, unnumbered([row]))
        check_room(self.said)
        return Sheet(self.size, self.upcoming, self.said + [row], self.noted)

    def with_memory(self, row):
        """One more memory, whose number is above all others."""
        number, letter, at, many = row
        check_memory(self.size, letter, at, many)
        check_room(self.noted)
        return Sheet(self.size, self.upcoming, self.said, self.noted + [row])

    def counted_on(self):
        """The next number is one more."""
        return Sheet(self.size, self.upcoming + 1, self.said, self.noted)

    def without_saying(self, number):
        """The saying of a number is taken away."""
        return Sheet(self.size, self.upcoming, without(self.said, number), self.noted)

    def without_memory(self, number):
        """The memory of a number is taken away."""
        return Sheet(self.size, self.upcoming, self.said, without(self.noted, number))

    def amended(self, row):
        """Another saying in the place of that of the same number."""
        k = place_of(self.said, row[0])
        check_sayings(self.size, unnumbered([row]))
        return Sheet(self.size, self.upcoming, self.said[:k] + [row] + self.said[k + 1:], self.noted)

    def resized(self, size):
        """The same of a song of another length."""
        check_length(size)
        return Sheet(size, self.upcoming, self.said, self.noted)

    def lengthened(self, many):
        """So many places more."""
        check_change(many)
        return self.resized(self.size + many)

    def shortened(self, many):
        """So many places fewer, the last ones."""
        check_change(many)
        sheet = self.resized(self.size - many)
        if self.used() > sheet.size:
            raise InUse("a saying or a memory has places that were to go")
        return sheet

    def used(self):
        """The place behind the last one that a saying or a memory has; 0 where none has any."""
        ends = [max(one, other) + many for number, one, other, many, turned in self.said]
        return max(ends + [at + many for number, letter, at, many in self.noted], default=0)

    def last_number(self):
        """The greatest number of a saying or a memory; 0 where there are none."""
        return max([row[0] for row in self.said + self.noted], default=0)
