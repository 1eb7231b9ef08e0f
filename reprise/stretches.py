"""Lists of stretches: pairs (low, behind), rising, with a gap between each two."""


def tidy(rows):
    """The list of stretches of all places that lie in any of the pairs."""
    out = []
    for low, behind in sorted(rows):
        if low >= behind:
            continue
        if not out or low > out[-1][1]:
            out.append((low, behind))
        elif behind > out[-1][1]:
            out[-1] = (out[-1][0], behind)
    return out


def breadth(rows):
    """How many places the stretches have."""
    return sum([behind - low for low, behind in rows])


def begun(rows, place):
    """How many of the rising rows begin at a place or ahead of it.

    Only the first item of a row is looked at, so any rows will do that rise by it.
    """
    least, most = 0, len(rows)
    while least < most:
        middle = (least + most) // 2
        if rows[middle][0] <= place:
            least = middle + 1
        else:
            most = middle
    return least


def has(rows, place):
    """Whether a place lies in the stretches."""
    k = begun(rows, place)
    return k > 0 and place < rows[k - 1][1]


def meet(rows, others):
    """The places that lie in both lists of stretches."""
    out = []
    j = k = 0
    while j < len(rows) and k < len(others):
        low = max(rows[j][0], others[k][0])
        behind = min(rows[j][1], others[k][1])
        if low < behind:
            out.append((low, behind))
        if rows[j][1] < others[k][1]:
            j += 1
        else:
            k += 1
    return out


def under(rows, place):
    """How many places of the stretches are less than a place."""
    return sum([min(behind, place) - low for low, behind in rows if low < place])


def kth(rows, k):
    """The place of the stretches that has k of theirs below it, or None."""
    if k < 0:
        return None
    for low, behind in rows:
        if k < behind - low:
            return low + k
        k -= behind - low
    return None
