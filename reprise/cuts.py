"""Cutting a song off from behind, piece by piece, till nothing is left.

A saying is kept as a tuple (low, high, many, turned), the lesser start first; its
end is high + many and its lead high - low. A cut is a tuple (low, behind, by,
turned) for the places from low to below behind. Where by is 0 they are firsts, for
no saying had them any more; else each of them is alike to a lesser place: to the
one that is by below it, or, where turned is True, to the place by - place.
"""


def kept_form(one, other, many, turned):
    """A saying as it is kept, or None where it says nothing.

    A turned saying whose stretches overlap tells each pair twice, so it is told
    anew by the halves of its reach, which do not overlap.
    """
    low = min(one, other)
    high = max(one, other)
    if turned and high < low + many:
        reach = high + many - low
        many = reach // 2
        high = low + reach - many
    if many < 1 or low == high:
        return None
    return (low, high, many, turned)


def kept_forms(sayings):
    """The sayings as they are kept, without those that say nothing."""
    forms = [kept_form(one, other, many, turned) for one, other, many, turned in sayings]
    return [form for form in forms if form is not None]


def common_beat(one, other):
    """The greatest number that divides both."""
    while other > 0:
        one, other = other, one % other
    return one


def partner(kept, saying):
    """The place in the list of a saying that can be joined with this one, or None.

    Places that keep two beats, and are at least as many as both together, keep the
    greatest number that divides both: then one saying tells what the two tell.
    """
    low, high, many, turned = saying
    if turned:
        return None
    lead = high - low
    for k, (its_low, its_high, its_many, its_turned) in enumerate(kept):
        its_lead = its_high - its_low
        # Mostly a reach alone is less than both leads, and this is seen sooner.
        if its_turned or many < its_lead or its_many < lead:
            continue
        shared = min(high + many, its_high + its_many) - max(low, its_low)
        if shared >= lead + its_lead:
            return k
    return None


def joined(saying, other):
    """The one straight saying that tells what two straight ones tell."""
    lead = common_beat(saying[1] - saying[0], other[1] - other[0])
    low = min(saying[0], other[0])
    end = max(saying[1] + saying[2], other[1] + other[2])
    return (low, low + lead, end - low - lead, False)


def taken_in(kept, fresh):
    """The kept sayings with the fresh ones, joined as often as one can.

    No two of the kept ones can be joined, so only fresh ones are tried.
    """
    out = list(kept)
    waiting = list(fresh)
    while waiting:
        saying = waiting.pop()
        k = partner(out, saying)
        if k is None:
            out.append(saying)
        else:
            waiting.append(joined(out.pop(k), saying))
    return out


def greatest_end(kept):
    """Where the last of the sayings ends; 0 where there are none."""
    return max([high + many for low, high, many, turned in kept], default=0)


def carried_start(leader, start, many):
    """Where a stretch within the leader's high one starts when it is carried."""
    low, high, size, turned = leader
    if turned:
        return low + high + size - start - many
    lead = high - low
    return start - ((start - high) // lead + 1) * lead


def carried(leader, saying):
    """A saying, each of its stretches carried that lies within the leader's high one.

    No saying ends behind the leader, so such a stretch is known by its start.
    """
    one, other, many, turned = saying
    if one >= leader[1]:
        one = carried_start(leader, one, many)
        turned = turned != leader[3]
    if other >= leader[1]:
        other = carried_start(leader, other, many)
        turned = turned != leader[3]
    return (one, other, many, turned)


def shortened(leader, end):
    """What the leader says of the places of its high stretch below an end."""
    low, high, many, turned = leader
    gone = high + many - end
    if turned:
        return (low + gone, high, many - gone, True)
    return (low, high, many - gone, False)


def led_cut(leader, low):
    """The cut from a place on to the leader's end."""
    start, high, many, turned = leader
    by = start + high + many - 1 if turned else high - start
    return (low, high + many, by, turned)


def cut_by_leader(kept):
    """The cut that the leading saying makes, and what is kept behind that.

    Of the sayings that end last the one with the longest stretches leads: so each
    other one that ends there can be carried off, and the leader alone has the end.
    """
    leader = max(kept, key=lambda saying: (saying[1] + saying[2], saying[2]))
    others = list(kept)
    others.remove(leader)
    still = [saying for saying in others if saying[1] < leader[1]]
    fresh = kept_forms([carried(leader, saying) for saying in others if saying[1] >= leader[1]])
    end = max(leader[1], greatest_end(still), greatest_end(fresh))
    fresh.extend(kept_forms([shortened(leader, end)]))
    return led_cut(leader, end), taken_in(still, fresh)


def cuts_of(length, sayings):
    """All cuts of a song, rising; each place lies in one of them."""
    kept = taken_in([], kept_forms(sayings))
    cuts = []
    end = length
    while end > 0:
        last = greatest_end(kept)
        if last < end:
            cut = (last, end, 0, False)
        else:
            cut, kept = cut_by_leader(kept)
        cuts.append(cut)
        end = cut[0]
    cuts.reverse()
    return cuts
