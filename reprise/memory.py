"""Memories of single notes: what they settle, and which of them quarrel."""

from reprise.checks import check_memory, check_stretch
from reprise.stretches import breadth, has, meet, tidy


class Memories:
    """The notes of a song where somebody remembers them.

    Alike places have one first, so each memory is kept with the firsts of its places:
    two memories touch one class where they have a first in common.
    """

    def __init__(self, classes, rows):
        for number, letter, at, many in rows:
            check_memory(classes.length(), letter, at, many)
        self.song = classes
        self.kept = [(number, letter, classes.image(at, many)) for number, letter, at, many in rows]

    def note(self, place):
        """The letter of a place, or the empty text where it is not settled."""
        first = self.song.first(place)
        for number, letter, image in self.kept:
            if has(image, first):
                return letter
        return ""

    def settled(self):
        """How many firsts are settled."""
        return breadth(tidy([row for number, letter, image in self.kept for row in image]))

    def free(self):
        """How many firsts are not settled."""
        return self.song.count() - self.settled()

    def quarrel(self):
        """The first quarrel, a triple (one, other, place), or None.

        The least place that is alike to places of both is a first.
        """
        for k, (number, letter, image) in enumerate(self.kept):
            for lesser, its_letter, its_image in self.kept[:k]:
                shared = meet(its_image, image) if its_letter != letter else []
                if shared:
                    return (lesser, number, shared[0][0])
        return None

    def shown(self, at, many):
        """The notes of the places of a stretch, with `-` where one is not settled."""
        check_stretch(self.song.length(), at, many)
        return "".join([self.note(place) or "-" for place in range(at, at + many)])
