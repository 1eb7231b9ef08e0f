"""What a song's length, places, stretches, sayings and memories must be."""

from reprise.errors import BadLength, BadLetter, BadStretch, NoPlace

TOO_LONG = 10 ** 40


def check_length(length):
    """Refuse a length that no song has."""
    if length < 0 or length >= TOO_LONG:
        raise BadLength("a song has from 0 to below 10 ** 40 places")


def check_place(length, place):
    """Refuse a place that a song of this length has not."""
    if place < 0 or place >= length:
        raise NoPlace("the song has no such place")


def check_stretch(length, at, many):
    """Refuse a stretch that is none of a song of this length."""
    if many < 1 or at < 0 or at + many > length:
        raise BadStretch("a stretch has one place or more, all of them the song's")


def check_sayings(length, sayings):
    """Refuse sayings of which one has a stretch that is none of the song."""
    for one, other, many, turned in sayings:
        check_stretch(length, one, many)
        check_stretch(length, other, many)


def check_letter(letter):
    """Refuse a note that is not one small letter."""
    if not isinstance(letter, str) or len(letter) != 1 or letter < "a" or letter > "z":
        raise BadLetter("a note is one small letter from a to z")


def check_memory(length, letter, at, many):
    """Refuse a memory whose letter is none, or whose stretch is none of the song."""
    check_letter(letter)
    check_stretch(length, at, many)
