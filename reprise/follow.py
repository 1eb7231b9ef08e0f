"""Following places through the cuts of a song down to their firsts."""

from reprise.stretches import begun, meet, tidy


def led_place(cut, place):
    """The place below a cut to which it leads one of its places."""
    low, behind, by, turned = cut
    if turned:
        return by - place
    return place - ((place - low) // by + 1) * by


def first_of(cuts, place):
    """The first of a place."""
    cut = cuts[begun(cuts, place) - 1]
    while cut[2] > 0:
        place = led_place(cut, place)
        cut = cuts[begun(cuts, place) - 1]
    return place


def led_rows(cut, rows):
    """The pairs below a cut to which it leads stretches that lie in it.

    A straight cut leads each place by as many steps as it needs to come below the
    cut, so a stretch may come to lie on both ends of the step ahead of the cut.
    """
    low, behind, by, turned = cut
    out = []
    for start, stop in rows:
        if turned:
            out.append((by + 1 - stop, by + 1 - start))
        else:
            down = led_place(cut, start)
            over = down + stop - start
            out.append((down, min(over, low)))
            out.append((low - by, min(over - by, low)))
    return out


def firsts_from(cuts, at, behind):
    """The list of stretches of the firsts of the places from at to below behind."""
    rows = [(at, behind)]
    out = []
    for cut in reversed(cuts):
        if not rows or rows[-1][1] <= cut[0]:
            continue
        within = meet(rows, [(cut[0], cut[1])])
        rows = meet(rows, [(0, cut[0])])
        if cut[2] > 0:
            rows = tidy(rows + led_rows(cut, within))
        else:
            out.extend(within)
    return tidy(out)
