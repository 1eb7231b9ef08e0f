"""A plain joining of places one by one, and songs to hold against it."""

import random

GREATEST = 10 ** 40 - 1
FAR = 10 ** 45 - 1


def pairs_of(saying):
    """The pairs of places that a saying says alike."""
    one, other, many, turned = saying
    for i in range(many):
        yield one + i, (other + many - 1 - i if turned else other + i)


def plain_firsts(length, sayings):
    """For each place its first, by joining the places one by one."""
    groups = {place: [place] for place in range(length)}
    at = list(range(length))
    for saying in sayings:
        for one, other in pairs_of(saying):
            low, high = sorted((at[one], at[other]))
            if low != high:
                for place in groups.pop(high):
                    at[place] = low
                    groups[low].append(place)
    return at


def plain_parted(told, asked):
    """Where two stretches part, by the list of firsts, place by place."""
    for i, (one, other) in enumerate(pairs_of(asked)):
        if told[one] != told[other]:
            return i
    return None


def plain_notes(told, rows):
    """For each first that is settled its letter."""
    notes = {}
    for number, letter, at, many in rows:
        for place in range(at, at + many):
            notes.setdefault(told[place], letter)
    return notes


def plain_quarrel(told, rows):
    """The first quarrel, of all pairs of memories and all places that are alike to both."""
    quarrels = []
    for one, its_letter, its_at, its_many in rows:
        for other, letter, at, many in rows:
            if one < other and letter != its_letter:
                shared = set(told[its_at:its_at + its_many]) & set(told[at:at + many])
                quarrels += [(other, one, place) for place in range(len(told)) if told[place] in shared]
    if not quarrels:
        return None
    other, one, place = min(quarrels)
    return one, other, place


def rows_of(places):
    """The list of stretches of some places."""
    rows = []
    for place in sorted(set(places)):
        if rows and rows[-1][1] == place:
            rows[-1] = (rows[-1][0], place + 1)
        else:
            rows.append((place, place + 1))
    return rows


def some_saying(chance, length, longest):
    """A saying of a song, of stretches of at most so many places."""
    many = chance.randint(1, max(1, min(length, longest)))
    one = chance.randint(0, length - many)
    other = chance.randint(0, length - many)
    return one, other, many, chance.random() < 0.5


def some_sayings(chance, length, count):
    """Sayings of a song, of longer and of shorter stretches."""
    longest = chance.choice([length, length // 2, length // 4, length // 10, 2])
    return [some_saying(chance, length, longest) for _ in range(count)]


def exchanged_pieces(chance, length, count, turning):
    """Sayings that tell a song as its own pieces in another order."""
    marks = sorted(chance.sample(range(1, min(length, 10 ** 15)), count - 1))
    scale = max(1, length // 10 ** 15)
    starts = [0] + [mark * scale for mark in marks]
    pieces = list(zip(starts, starts[1:] + [length]))
    chance.shuffle(pieces)
    sayings = []
    to = 0
    for low, behind in pieces:
        sayings.append((low, to, behind - low, chance.random() < turning))
        to += behind - low
    return sayings


def great_songs():
    """Pairs (length, sayings) of songs too long to be gone through."""
    chance = random.Random(404)
    songs = []
    for length in (10 ** 15, 10 ** 27 + 7, 10 ** 39, GREATEST):
        for count in (0, 1, 2, 3, 5, 8, 24):
            songs.append((length, some_sayings(chance, length, count)))
        for turning in (0, 0.2):
            for count in (2, 3, 7, 24):
                songs.append((length, exchanged_pieces(chance, length, count, turning)))
    return songs


def some_places(chance, low, many):
    """The places at the edges of a stretch and some within."""
    within = [chance.randint(0, many - 1) for _ in range(6)]
    return sorted({low + i for i in [0, many - 1, many // 2, *within]})


def block_firsts(length, sayings):
    """For each block its first block and whether it lies turned there, and the first
    blocks that are mirrors; found by walking from block to block."""
    beside = [[] for _ in range(length)]
    for one, other, many, turned in sayings:
        for i in range(many):
            to = other + many - 1 - i if turned else other + i
            beside[one + i].append((to, turned))
            beside[to].append((one + i, turned))
    told = {}
    mirrors = set()
    for root in range(length):
        if root in told:
            continue
        told[root] = (root, False)
        waiting = [root]
        while waiting:
            block = waiting.pop()
            for to, turned in beside[block]:
                way = told[block][1] != turned
                if to not in told:
                    told[to] = (root, way)
                    waiting.append(to)
                elif told[to][1] != way:
                    mirrors.add(root)
    return told, mirrors


def bad_stretches(length):
    """Pairs (at, many) that are no stretches of a song."""
    return [(0, 0), (2, 0), (0, -1), (2, -1), (length, 0), (length + 1, -1), (-1, 1), (-1, 2), (-FAR, FAR),
            (length, 1), (length - 1, 2), (0, length + 1), (1, length), (FAR, 1), (0, FAR), (FAR, -FAR), (0, -FAR)]
