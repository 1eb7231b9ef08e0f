"""Which places a single saying says alike.

A saying is a tuple (one, other, many, turned), as it was told.
"""


def met(saying, i):
    """The place that a saying says alike with the place i of its one stretch."""
    one, other, many, turned = saying
    return other + many - 1 - i if turned else other + i


def beside(saying, place):
    """The places that a saying says alike with a place: two, where both its stretches have it."""
    one, other, many, turned = saying
    out = []
    if one <= place < one + many:
        out.append(met(saying, place - one))
    if other <= place < other + many:
        out.append(met((other, one, many, turned), place - other))
    return out


def front(saying, size):
    """What a saying says of so many first places of its one stretch."""
    one, other, many, turned = saying
    return (one, met(saying, size - 1) if turned else other, size, turned)
