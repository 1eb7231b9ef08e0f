"""A plain book to hold a Book against, and deeds for both."""

from reprise.classes import Classes
from reprise.errors import RepriseError
from reprise.memory import Memories
from tests.plain import FAR, bad_stretches, plain_firsts, plain_notes, plain_quarrel, some_saying


def seen(book):
    """All that a book tells of itself without reckoning."""
    return (book.length(), book.coming(), book.sayings(), book.memories(), book.undoable(), book.redoable())


def bare(book):
    """The sayings of a book as they are handed in elsewhere."""
    return [row[1:] for row in book.sayings()]


def by_hand(length, sayings, memories):
    """Classes and Memories made by hand."""
    classes = Classes(length, sayings)
    return classes, Memories(classes, memories)


def reckoned(classes, heard):
    """What Classes and Memories answer, for a few places only where there are many."""
    length = classes.length()
    places = sorted({place for place in (0, 1, length // 3, length // 2, length - 2, length - 1) if 0 <= place < length})
    shown = min(length, 60)
    return [length, classes.count(), classes.firsts(), [classes.first(place) for place in places],
            [classes.below(place) for place in places], [heard.note(place) for place in places], heard.settled(),
            heard.free(), heard.quarrel(), heard.shown(0, shown) if shown else "",
            heard.shown(length - shown, shown) if shown else ""]


def answers(book):
    """What a book answers of now."""
    return reckoned(book.classes(), book.heard())


def plain_answers(length, sayings, memories):
    """The count of firsts, the free notes and the first quarrel, by a plain joining."""
    told = plain_firsts(length, sayings)
    return len(set(told)), len(set(told)) - len(plain_notes(told, memories)), plain_quarrel(told, memories)


def attempt(book, name, words):
    """What came of a deed: the name of the refusal or the empty text, and what was told."""
    try:
        return "", getattr(book, name)(*words)
    except RepriseError as refusal:
        return refusal.__class__.__name__, None


class PlainBook:
    """A book by dicts and copies, written apart from the one that is tested."""

    def __init__(self, length):
        self.now = (length, 1, {}, {})
        self.past = []
        self.ahead = []

    def seen(self):
        length, coming, said, noted = self.now
        return (length, coming, [(number, *said[number]) for number in sorted(said)],
                [(number, *noted[number]) for number in sorted(noted)], len(self.past), len(self.ahead))

    def fits(self, at, many):
        return many >= 1 and at >= 0 and at + many <= self.now[0]

    def attempt(self, name, words):
        refusal = getattr(self, "refused_" + name)(*words)
        if refusal:
            return refusal, None
        if name == "undo":
            self.ahead.append(self.now)
            self.now = self.past.pop()
            return "", None
        if name == "redo":
            self.past.append(self.now)
            self.now = self.ahead.pop()
            return "", None
        length, coming, said, noted = self.now
        self.past.append(self.now)
        self.ahead = []
        said, noted = dict(said), dict(noted)
        told = None
        if name == "say":
            said[coming] = words
            told, coming = coming, coming + 1
        elif name == "remember":
            noted[coming] = words
            told, coming = coming, coming + 1
        elif name == "amend":
            said[words[0]] = words[1:]
        elif name == "unsay":
            del said[words[0]]
        elif name == "forget":
            del noted[words[0]]
        elif name == "lengthen":
            length += words[0]
        else:
            length -= words[0]
        self.now = (length, coming, said, noted)
        return "", told

    def refused_say(self, one, other, many, turned):
        if not self.fits(one, many) or not self.fits(other, many):
            return "BadStretch"
        return "Full" if len(self.now[2]) == 24 else ""

    def refused_unsay(self, number):
        return "" if number in self.now[2] else "NoNumber"

    def refused_amend(self, number, one, other, many, turned):
        if number not in self.now[2]:
            return "NoNumber"
        return "" if self.fits(one, many) and self.fits(other, many) else "BadStretch"

    def refused_remember(self, letter, at, many):
        if letter not in list("abcdefghijklmnopqrstuvwxyz"):
            return "BadLetter"
        if not self.fits(at, many):
            return "BadStretch"
        return "Full" if len(self.now[3]) == 24 else ""

    def refused_forget(self, number):
        return "" if number in self.now[3] else "NoNumber"

    def refused_lengthen(self, many):
        return "BadLength" if many < 1 or self.now[0] + many >= 10 ** 40 else ""

    def refused_shorten(self, many):
        length, _, said, noted = self.now
        if many < 1 or many > length:
            return "BadLength"
        ends = [start + size for one, other, size, _ in said.values() for start in (one, other)]
        ends += [at + size for _, at, size in noted.values()]
        return "InUse" if any(end > length - many for end in ends) else ""

    def refused_undo(self):
        return "" if self.past else "NothingLeft"

    def refused_redo(self):
        return "" if self.ahead else "NothingLeft"


def some_number(chance, book):
    """A number, mostly one that a saying or a memory has."""
    numbers = [row[0] for row in book.sayings() + book.memories()]
    return chance.choice(numbers + [0, -1, book.coming(), FAR] if chance.random() < 0.2 or not numbers else numbers)


def some_words(chance, book):
    """What a saying has, mostly such that it is one of the song."""
    length = book.length()
    if length < 1 or chance.random() < 0.1:
        at, many = chance.choice(bad_stretches(length))
        return chance.choice([at, 0]), at, many, chance.random() < 0.5
    return some_saying(chance, length, chance.choice([length, length // 2, length // 9, 3]))


def some_change(chance, length):
    """By how many places a song is made longer or shorter."""
    return chance.choice([1, 2, 3, 0, -1, length, length + 1, max(1, length // 20), 10 ** 40 - length, FAR])


def some_deed(chance, book):
    """A deed for a book, mostly one that is not refused: its name, and what it is told."""
    name = chance.choice(["say"] * 7 + ["remember"] * 7 + ["unsay", "amend", "amend", "forget", "lengthen", "shorten"])
    name = chance.choice(["undo", "redo"]) if chance.random() < 0.25 else name
    if name == "say":
        return name, some_words(chance, book)
    if name == "amend":
        return name, (some_number(chance, book), *some_words(chance, book))
    if name == "remember":
        at, _, many, _ = some_words(chance, book)
        return name, (chance.choice("aaabbcz" if chance.random() < 0.9 else ["", "A", "ab", "-", "{", "`"]), at, many)
    if name in ("unsay", "forget"):
        return name, (some_number(chance, book),)
    if name in ("lengthen", "shorten"):
        return name, (some_change(chance, book.length()),)
    return name, ()
