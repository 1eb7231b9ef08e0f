"""The book: sayings and memories of a song that come and go, with undoing and redoing."""

from reprise.checks import check_length
from reprise.classes import Classes
from reprise.errors import NothingLeft
from reprise.memory import Memories
from reprise.sheets import Sheet, unnumbered


class Book:
    """A song's length, and sayings and memories by numbers.

    It keeps a sheet for each deed that is not let go, and one for the beginning; `here`
    is the place of that of now. What follows from it is reckoned when it is first asked.
    """

    def __init__(self, length):
        check_length(length)
        self.sheets = [Sheet(length, 1, [], [])]
        self.here = 0
        self.song = None
        self.notes = None

    def sheet(self):
        """The sheet of now."""
        return self.sheets[self.here]

    def length(self):
        """How many places the song has."""
        return self.sheet().size

    def coming(self):
        """The next number."""
        return self.sheet().upcoming

    def sayings(self):
        """The sayings (number, one, other, many, turned), rising."""
        return list(self.sheet().said)

    def memories(self):
        """The memories (number, letter, at, many), rising."""
        return list(self.sheet().noted)

    def say(self, one, other, many, turned):
        """One more saying; its number is told."""
        number = self.coming()
        self.go_on(self.sheet().with_saying((number, one, other, many, turned)).counted_on())
        return number

    def unsay(self, number):
        """Take a saying away."""
        self.go_on(self.sheet().without_saying(number))

    def amend(self, number, one, other, many, turned):
        """Put another saying in the place of a number's."""
        self.go_on(self.sheet().amended((number, one, other, many, turned)))

    def remember(self, letter, at, many):
        """One more memory; its number is told."""
        number = self.coming()
        self.go_on(self.sheet().with_memory((number, letter, at, many)).counted_on())
        return number

    def forget(self, number):
        """Take a memory away."""
        self.go_on(self.sheet().without_memory(number))

    def lengthen(self, many):
        """So many places more, behind the last one."""
        self.go_on(self.sheet().lengthened(many))

    def shorten(self, many):
        """So many places fewer, the last ones."""
        self.go_on(self.sheet().shortened(many))

    def go_on(self, sheet):
        """A deed led to this sheet: what was undone ahead of it is let go."""
        self.sheets = self.sheets[:self.here + 1] + [sheet]
        self.turn(1)

    def turn(self, by):
        """Turn to another sheet, and let go what followed from other sayings or memories."""
        old = self.sheet()
        self.here += by
        new = self.sheet()
        if old.size != new.size or old.said != new.said:
            self.song = None
        self.notes = None

    def undo(self):
        """Lead back to what was ahead of the last deed that is not undone."""
        if self.undoable() == 0:
            raise NothingLeft("there is nothing to undo")
        self.turn(-1)

    def redo(self):
        """Do the deed undone last once more."""
        if self.redoable() == 0:
            raise NothingLeft("there is nothing to redo")
        self.turn(1)

    def undoable(self):
        """How many times in a row one could undo."""
        return self.here

    def redoable(self):
        """How many times in a row one could redo."""
        return len(self.sheets) - 1 - self.here

    def classes(self):
        """The Classes of now."""
        if self.song is None:
            self.song = Classes(self.length(), unnumbered(self.sayings()))
        return self.song

    def heard(self):
        """The Memories of now."""
        if self.notes is None:
            self.notes = Memories(self.classes(), self.memories())
        return self.notes

    def if_said(self, one, other, many, turned):
        """The count of firsts, the free notes and the first quarrel, if a saying were said, too."""
        song = Classes(self.length(), unnumbered(self.sayings()) + [(one, other, many, turned)])
        notes = Memories(song, self.memories())
        return (song.count(), notes.free(), notes.quarrel())

    def twin(self):
        """Another book with the same of all, which can undo and redo the same."""
        other = Book(self.length())
        other.sheets = list(self.sheets)
        other.here = self.here
        return other


def book_of(sheet):
    """A book that begins with a sheet: nothing of it can be undone."""
    book = Book(sheet.size)
    book.sheets = [sheet]
    return book
