"""Stretches alike: whether they are and where they part, beats and mirrors."""

from reprise.checks import check_stretch
from reprise.classes import Classes
from reprise.pairs import front, met


def follows(classes, sayings, saying):
    """Whether all that one more saying says is so already.

    Whatever it says anew makes one class of two, and so leaves fewer firsts.
    """
    return Classes(classes.length(), sayings + [saying]).count() == classes.count()


def least_failing(behind, holds):
    """The least number from 0 on for which something does not hold, or behind.

    By halving: right where it holds up to some number and for none from there on;
    elsewhere a number for which it does not hold, though maybe not the least, or behind.
    """
    low, high = 0, behind
    while low < high:
        middle = (low + high) // 2
        if holds(middle):
            low = middle + 1
        else:
            high = middle
    return low


def alike(length, sayings, one, other, many, turned):
    """Whether two stretches are alike, straight or turned."""
    classes = Classes(length, sayings)
    check_stretch(length, one, many)
    check_stretch(length, other, many)
    return follows(classes, sayings, (one, other, many, turned))


def parted(length, sayings, one, other, many, turned):
    """The least i at which two stretches part, or None where they are alike.

    Single places are looked up far sooner than it is reckoned whether whole stretches
    are alike, so they give a guess; mostly that is right, and one reckoning shows it.
    """
    classes = Classes(length, sayings)
    check_stretch(length, one, many)
    check_stretch(length, other, many)
    asked = (one, other, many, turned)

    def meets(i):
        return classes.same(one + i, met(asked, i))

    guess = least_failing(many, meets)
    if guess > 0 and not follows(classes, sayings, front(asked, guess)):
        return least_failing(guess, lambda i: meets(i) and follows(classes, sayings, front(asked, i + 1)))
    return guess if guess < many else None


def beat(length, sayings, at, many, step):
    """Whether a stretch keeps a beat."""
    classes = Classes(length, sayings)
    check_stretch(length, at, many)
    apart = abs(step)
    if apart >= many:
        return True
    return follows(classes, sayings, (at, at + apart, many - apart, False))


def mirror(length, sayings, at, many):
    """Whether a stretch is alike to itself turned."""
    return alike(length, sayings, at, at, many, True)
