"""Undoing and redoing, twins, and what was told earlier."""

import random
import unittest

from reprise.book import Book
from reprise.errors import BadLength, BadLetter, BadStretch, Full, InUse, NoNumber, NothingLeft
from tests.books import PlainBook, answers, attempt, seen, some_deed
from tests.plain import GREATEST

# One deed of each kind, and all of them good one behind the other.
DEEDS = [("say", 0, 5, 3, False), ("remember", "a", 1, 2), ("say", 2, 3, 4, True), ("amend", 1, 0, 4, 4, True),
         ("lengthen", 7), ("remember", "b", 0, 11), ("say", 3, 10, 2, False), ("forget", 2), ("unsay", 3),
         ("shorten", 5), ("amend", 5, 0, 0, 12, True), ("remember", "c", 11, 1)]


def told_of(book):
    """All that a book tells, but for what can be undone and redone."""
    return seen(book)[:4], answers(book)


def done_book(asking=True):
    """A book with all these deeds, and what it told ahead of each and behind the last."""
    book = Book(10)
    told = [told_of(book) if asking else None]
    for name, *words in DEEDS:
        getattr(book, name)(*words)
        told.append(told_of(book) if asking else None)
    return book, told


class UndoTest(unittest.TestCase):
    def nothing_left(self, book, name):
        before, told = seen(book), answers(book)
        with self.assertRaises(NothingLeft) as caught:
            getattr(book, name)()
        self.assertIs(type(caught.exception), NothingLeft)
        self.assertEqual((seen(book), answers(book)), (before, told))


class BackAndForth(UndoTest):
    def test_to_the_beginning_and_to_the_end(self):
        book, told = done_book()
        many = len(DEEDS)
        for _ in range(3):
            for k in range(many, 0, -1):
                self.assertEqual((told_of(book), book.undoable(), book.redoable()), (told[k], k, many - k))
                book.undo()
            self.assertEqual((told_of(book), book.undoable(), book.redoable()), (told[0], 0, many))
            self.nothing_left(book, "undo")
            for k in range(1, many + 1):
                book.redo()
                self.assertEqual((told_of(book), book.undoable(), book.redoable()), (told[k], k, many - k))
            self.nothing_left(book, "redo")

    def test_without_questions_between(self):
        told = done_book()[1]
        for back in range(len(DEEDS) + 1):
            book = done_book(asking=False)[0]
            for _ in range(back):
                book.undo()
            self.assertEqual(told_of(book), told[len(DEEDS) - back])
            for _ in range(back):
                book.redo()
            self.assertEqual(told_of(book), told[-1])

    def test_each_kind_of_deed_alone(self):
        for name, *words in [("say", 4, 5, 1, True), ("unsay", 7), ("amend", 7, 0, 1, 1, False), ("forget", 6),
                             ("remember", "q", 2, 2), ("lengthen", 10 ** 39), ("shorten", 2)]:
            with self.subTest(name):
                book, _ = done_book()
                book.say(0, 1, 2, False)
                book.lengthen(2)
                book.amend(5, 0, 1, 2, False)
                if name in ("unsay", "amend"):
                    words[0] = book.sayings()[0][0]
                elif name == "forget":
                    words[0] = book.memories()[0][0]
                before = told_of(book)
                getattr(book, name)(*words)
                behind = told_of(book)
                self.assertNotEqual(before, behind)
                book.undo()
                self.assertEqual(told_of(book), before)
                book.redo()
                self.assertEqual(told_of(book), behind)

    def test_a_new_book_has_nothing(self):
        for length in (0, 5, GREATEST):
            book = Book(length)
            self.assertEqual((book.undoable(), book.redoable()), (0, 0))
            self.nothing_left(book, "undo")
            self.nothing_left(book, "redo")

    def test_an_amending_by_the_same_is_a_deed(self):
        book = Book(9)
        book.say(0, 1, 2, False)
        book.amend(1, 0, 1, 2, False)
        self.assertEqual(book.undoable(), 2)
        book.undo()
        self.assertEqual((book.sayings(), book.undoable()), ([(1, 0, 1, 2, False)], 1))


class AnotherDeed(UndoTest):
    def test_lets_go_what_was_undone(self):
        for name, *words in [("say", 4, 5, 1, True), ("remember", "q", 2, 2), ("lengthen", 1), ("shorten", 1),
                             ("amend", 1, 0, 1, 1, False), ("unsay", 1), ("forget", 2)]:
            with self.subTest(name):
                book = Book(20)
                book.say(0, 5, 3, False)
                book.remember("a", 0, 1)
                book.lengthen(3)
                book.say(1, 2, 3, True)
                book.undo()
                book.undo()
                before = told_of(book)
                self.assertEqual(book.redoable(), 2)
                getattr(book, name)(*words)
                self.assertEqual((book.undoable(), book.redoable()), (3, 0))
                self.nothing_left(book, "redo")
                book.undo()
                self.assertEqual((told_of(book), book.redoable()), (before, 1))

    def test_a_refused_one_does_not(self):
        refused = [(BadStretch, "say", 0, 30, 1, False), (NoNumber, "unsay", 2), (NoNumber, "amend", 9, 0, 0, 1, True),
                   (BadStretch, "amend", 1, 0, 0, 0, True), (BadLetter, "remember", "A", 0, 1),
                   (BadStretch, "remember", "a", 30, 1), (NoNumber, "forget", 1), (BadLength, "lengthen", 0),
                   (BadLength, "lengthen", 10 ** 40), (BadLength, "shorten", 99), (InUse, "shorten", 20)]
        book = Book(20)
        book.say(0, 5, 3, False)
        book.remember("a", 0, 1)
        book.lengthen(3)
        book.say(1, 2, 3, True)
        behind = told_of(book)
        book.undo()
        book.undo()
        before = told_of(book)
        for kind, name, *words in refused:
            with self.assertRaises(kind):
                getattr(book, name)(*words)
            self.assertEqual((told_of(book), book.undoable(), book.redoable()), (before, 2, 2))
        book.redo()
        book.redo()
        self.assertEqual(told_of(book), behind)
        with self.assertRaises(NothingLeft):
            book.redo()
        self.assertEqual((book.undoable(), book.redoable()), (4, 0))

    def test_a_full_book_does_not(self):
        book = Book(30)
        for k in range(24):
            book.say(k, k + 1, 1, False)
        book.lengthen(1)
        book.undo()
        with self.assertRaises(Full):
            book.say(0, 1, 1, False)
        self.assertEqual((book.undoable(), book.redoable(), book.coming()), (24, 1, 25))
        book.redo()
        self.assertEqual(book.length(), 31)

    def test_undoing_takes_back_what_was_full(self):
        book = Book(30)
        for k in range(24):
            book.remember("a", k, 1)
        book.undo()
        self.assertEqual(book.remember("b", 0, 1), 24)
        self.assertEqual(len(book.memories()), 24)


class Against(unittest.TestCase):
    def test_any_deeds_of_small_songs(self):
        chance = random.Random(111)
        refusals = set()
        for _ in range(60):
            length = chance.choice([0, 1, 2, 5, 12, 40])
            book, plain = Book(length), PlainBook(length)
            for _ in range(150):
                name, words = some_deed(chance, book)
                told = attempt(book, name, words)
                self.assertEqual(told, plain.attempt(name, words), (name, words))
                self.assertEqual(seen(book), plain.seen())
                refusals.add((name, told[0]))
        self.assertEqual(refusals, {
            ("say", ""), ("say", "BadStretch"), ("say", "Full"), ("unsay", ""), ("unsay", "NoNumber"), ("amend", ""),
            ("amend", "NoNumber"), ("amend", "BadStretch"), ("remember", ""), ("remember", "BadLetter"),
            ("remember", "BadStretch"), ("remember", "Full"), ("forget", ""), ("forget", "NoNumber"), ("lengthen", ""),
            ("lengthen", "BadLength"), ("shorten", ""), ("shorten", "BadLength"), ("shorten", "InUse"), ("undo", ""),
            ("undo", "NothingLeft"), ("redo", ""), ("redo", "NothingLeft")})

    def test_four_hundred_deeds_of_a_great_song(self):
        chance = random.Random(112)
        book, plain = Book(10 ** 39), PlainBook(10 ** 39)
        told, deeds = [], 0
        while deeds < 400:
            name, words = some_deed(chance, book)
            if name in ("undo", "redo"):
                continue
            came = attempt(book, name, words)
            self.assertEqual(came, plain.attempt(name, words))
            if came[0] == "":
                deeds += 1
                told.append(told_of(book))
        self.assertEqual((book.undoable(), book.redoable()), (400, 0))
        for k in range(400, 0, -1):
            self.assertEqual(told_of(book), told[k - 1])
            book.undo()
        self.assertEqual(seen(book), (10 ** 39, 1, [], [], 0, 400))
        self.assertEqual(book.classes().firsts(), [(0, 10 ** 39)])
        for k in range(1, 401):
            book.redo()
            self.assertEqual(told_of(book), told[k - 1])
        self.assertEqual(seen(book), plain.seen())


class Twins(UndoTest):
    def test_the_same_of_all(self):
        book, told = done_book()
        for back in (0, 1, 4, len(DEEDS)):
            for _ in range(back):
                book.undo()
            twin = book.twin()
            self.assertIs(type(twin), Book)
            self.assertEqual((seen(twin), answers(twin)), (seen(book), answers(book)))
            while twin.undoable():
                self.assertEqual(told_of(twin), told[twin.undoable()])
                twin.undo()
            self.nothing_left(twin, "undo")
            while twin.redoable():
                twin.redo()
                self.assertEqual(told_of(twin), told[twin.undoable()])
            self.nothing_left(twin, "redo")
            self.assertEqual(book.redoable(), back)
            for _ in range(back):
                book.redo()

    def test_neither_has_to_do_with_the_other(self):
        for first in (0, 1):
            for name, *words in [("say", 4, 5, 1, True), ("remember", "q", 2, 2), ("lengthen", 1), ("shorten", 1),
                                 ("amend", 1, 0, 1, 1, False), ("unsay", 1), ("forget", 2), ("undo",), ("redo",)]:
                book = Book(20)
                book.say(0, 5, 3, False)
                book.remember("a", 0, 1)
                book.lengthen(3)
                book.undo()
                pair = [book, book.twin()]
                changed, kept = pair[first], pair[1 - first]
                before, told = seen(kept), answers(kept)
                self.assertEqual((seen(changed), answers(changed)), (before, told))
                getattr(changed, name)(*words)
                self.assertNotEqual(seen(changed), before)
                self.assertEqual((seen(kept), answers(kept)), (before, told))
                while changed.undoable():
                    changed.undo()
                self.assertEqual((seen(kept), answers(kept)), (before, told))
                changed.remember("z", 0, 20)
                self.assertEqual((seen(kept), answers(kept)), (before, told))
                kept.redo()
                self.assertEqual(kept.length(), 23)

    def test_twins_of_twins_go_their_own_ways(self):
        chance = random.Random(113)
        books = [(Book(30), PlainBook(30))]
        for _ in range(400):
            book, plain = chance.choice(books)
            if chance.random() < 0.05:
                other = PlainBook(0)
                other.now, other.past, other.ahead = plain.now, list(plain.past), list(plain.ahead)
                books.append((book.twin(), other))
            name, words = some_deed(chance, book)
            self.assertEqual(attempt(book, name, words), plain.attempt(name, words))
            for each, its_plain in books:
                self.assertEqual(seen(each), its_plain.seen())

    def test_two_books_made_apart(self):
        one, other = Book(10), Book(10)
        one.say(0, 5, 5, False)
        one.remember("a", 0, 3)
        self.assertEqual(seen(other), (10, 1, [], [], 0, 0))
        self.assertEqual((other.classes().count(), other.heard().free()), (10, 10))
        self.assertEqual(other.remember("b", 0, 1), 1)
        self.assertEqual(one.memories(), [(2, "a", 0, 3)])


class ToldEarlier(unittest.TestCase):
    def test_classes_and_heard_stay(self):
        book = Book(10)
        kept = []
        for name, *words in DEEDS + [("undo",)] * 5 + [("redo",)] * 2 + [("lengthen", 10 ** 39)]:
            kept.append((book.classes(), book.heard(), answers(book)))
            getattr(book, name)(*words)
            for classes, heard, told in kept:
                self.assertEqual(classes.length(), told[0])
                self.assertEqual((classes.count(), classes.firsts()), (told[1], told[2]))
                self.assertEqual((heard.settled(), heard.free(), heard.quarrel()), tuple(told[6:9]))

    def test_lists_may_be_changed(self):
        book, told = done_book()
        for rows in (book.sayings(), book.memories()):
            rows.clear()
            rows.append((1, 2, 3, 4, False))
        book.classes().firsts().clear()
        book.classes().image(0, 5).clear()
        self.assertEqual(told_of(book), told[-1])
        book.undo()
        book.sayings().pop()
        book.undo()
        book.redo()
        book.memories().insert(0, (1, "x", 0, 1))
        book.redo()
        self.assertEqual(told_of(book), told[-1])


if __name__ == "__main__":
    unittest.main()
