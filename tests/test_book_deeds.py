"""The deeds of a book: numbers, what is done, and what is refused and in which order."""

import unittest

from reprise.book import Book
from reprise.errors import BadLength, BadLetter, BadStretch, Full, InUse, NoNumber
from tests.books import answers, seen
from tests.plain import FAR, GREATEST, bad_stretches

NO_LETTERS = ["", "A", "Z", "ab", "aa", "-", "1", " ", "`", "{", "a ", "\n", 7, None, ["a"]]


def small_book():
    """A book with sayings 1 and 3, memories 2 and 4, and a deed that is undone."""
    book = Book(10)
    book.say(0, 5, 3, False)
    book.remember("a", 1, 2)
    book.say(2, 3, 4, True)
    book.remember("b", 6, 2)
    book.lengthen(1)
    book.undo()
    return book


class DeedsTest(unittest.TestCase):
    def refuse(self, kind, book, name, *words):
        """A deed is refused by this class and no other one, and all stays as it was."""
        before, told = seen(book), answers(book)
        with self.assertRaises(kind) as caught:
            getattr(book, name)(*words)
        self.assertIs(type(caught.exception), kind)
        self.assertEqual((seen(book), answers(book)), (before, told))


class Beginning(DeedsTest):
    def test_lengths(self):
        for length in (0, 1, 10 ** 39, GREATEST):
            book = Book(length)
            self.assertEqual(seen(book), (length, 1, [], [], 0, 0))
            self.assertEqual((book.classes().count(), book.heard().free(), book.heard().quarrel()),
                             (length, length, None))
        for length in (-1, -FAR, 10 ** 40, 10 ** 40 + 1, FAR):
            with self.assertRaises(BadLength):
                Book(length)

    def test_kinds(self):
        book = small_book()
        for number in (book.length(), book.coming(), book.undoable(), book.redoable(), book.say(0, 1, 1, False),
                       book.remember("c", 0, 1)):
            self.assertIs(type(number), int)
        self.assertIs(type(book.sayings()), list)
        self.assertIs(type(book.memories()), list)
        for row in book.sayings():
            self.assertIs(type(row), tuple)
            self.assertEqual([type(part) for part in row], [int, int, int, int, bool])
        for row in book.memories():
            self.assertIs(type(row), tuple)
            self.assertEqual([type(part) for part in row], [int, str, int, int])
        told = [book.amend(1, 0, 1, 1, True), book.unsay(1), book.forget(2), book.lengthen(3), book.shorten(3),
                book.undo(), book.redo()]
        self.assertEqual(told, [None] * 7)


class Numbers(DeedsTest):
    def test_one_more_each_time_for_both_kinds(self):
        book = Book(10)
        self.assertEqual(book.coming(), 1)
        self.assertEqual([book.say(0, 1, 1, False), book.remember("a", 0, 1), book.remember("b", 0, 1),
                          book.say(0, 2, 1, True)], [1, 2, 3, 4])
        self.assertEqual(book.coming(), 5)
        self.assertEqual(book.sayings(), [(1, 0, 1, 1, False), (4, 0, 2, 1, True)])
        self.assertEqual(book.memories(), [(2, "a", 0, 1), (3, "b", 0, 1)])

    def test_none_is_given_anew(self):
        book = Book(10)
        book.say(0, 1, 1, False)
        book.unsay(1)
        self.assertEqual((book.coming(), book.remember("a", 0, 1)), (2, 2))
        book.forget(2)
        self.assertEqual((book.coming(), book.say(0, 1, 1, False)), (3, 3))
        self.assertEqual((book.sayings(), book.memories()), ([(3, 0, 1, 1, False)], []))

    def test_other_deeds_take_none(self):
        book = small_book()
        book.amend(1, 0, 0, 1, False)
        book.lengthen(5)
        book.shorten(2)
        book.forget(2)
        self.assertEqual(book.coming(), 5)

    def test_a_refused_deed_takes_none(self):
        book = small_book()
        self.refuse(BadStretch, book, "say", 0, 0, 0, False)
        self.refuse(BadLetter, book, "remember", "A", 0, 1)
        self.assertEqual(book.say(0, 0, 1, False), 5)

    def test_an_undoing_takes_the_next_number_back(self):
        book = Book(10)
        book.say(0, 1, 1, False)
        book.say(0, 2, 1, False)
        book.undo()
        self.assertEqual((book.coming(), book.remember("a", 0, 1), book.coming()), (2, 2, 3))
        book.undo()
        book.undo()
        self.assertEqual((book.coming(), book.say(4, 5, 1, True)), (1, 1))


class Sayings(DeedsTest):
    def test_stretches_up_to_the_edges(self):
        for length in (5, GREATEST):
            book = Book(length)
            for saying in [(0, 0, length, False), (0, 0, length, True), (length - 1, 0, 1, False),
                           (0, 1, length - 1, True), (1, 0, length - 1, False)]:
                number = book.say(*saying)
                self.assertEqual(book.sayings()[-1], (number, *saying))
                book.amend(1, *saying)
                self.assertEqual(book.sayings()[0], (1, *saying))

    def test_stretches_that_are_none(self):
        for length in (5, GREATEST):
            book = Book(length)
            book.say(0, 0, 1, False)
            for at, many in bad_stretches(length):
                for turned in (False, True):
                    for saying in [(at, 0, many, turned), (0, at, many, turned), (at, at, many, turned)]:
                        with self.subTest((length, saying)):
                            self.refuse(BadStretch, book, "say", *saying)
                            self.refuse(BadStretch, book, "amend", 1, *saying)

    def test_the_empty_song_takes_none(self):
        book = Book(0)
        self.refuse(BadStretch, book, "say", 0, 0, 0, False)
        self.refuse(BadStretch, book, "say", 0, 0, 1, False)
        self.refuse(BadStretch, book, "remember", "a", 0, 0)
        self.refuse(BadStretch, book, "remember", "a", 0, 1)

    def test_the_stretch_is_of_the_song_of_now(self):
        book = Book(5)
        self.refuse(BadStretch, book, "say", 0, 5, 1, False)
        book.lengthen(1)
        self.assertEqual(book.say(0, 5, 1, False), 1)
        book.unsay(1)
        book.shorten(1)
        self.refuse(BadStretch, book, "say", 0, 5, 1, False)

    def test_amended(self):
        book = small_book()
        book.amend(1, 4, 2, 2, True)
        self.assertEqual(book.sayings(), [(1, 4, 2, 2, True), (3, 2, 3, 4, True)])
        book.amend(3, 0, 9, 1, False)
        self.assertEqual(book.sayings(), [(1, 4, 2, 2, True), (3, 0, 9, 1, False)])
        self.assertEqual(book.memories(), [(2, "a", 1, 2), (4, "b", 6, 2)])

    def test_unsaid(self):
        book = small_book()
        book.unsay(1)
        self.assertEqual(book.sayings(), [(3, 2, 3, 4, True)])
        self.refuse(NoNumber, book, "unsay", 1)
        book.unsay(3)
        self.assertEqual((book.sayings(), len(book.memories())), ([], 2))

    def test_numbers_that_no_saying_has(self):
        book = small_book()
        for number in (0, -1, 2, 4, 5, 6, FAR, -FAR):
            self.refuse(NoNumber, book, "unsay", number)
            self.refuse(NoNumber, book, "amend", number, 0, 1, 1, False)
            self.refuse(NoNumber, book, "amend", number, 0, 10, 1, False)
            self.refuse(NoNumber, book, "amend", number, 0, 0, 0, True)


class Remembering(DeedsTest):
    def test_letters_and_stretches_up_to_the_edges(self):
        for length in (5, GREATEST):
            book = Book(length)
            for letter, at, many in [("a", 0, length), ("z", length - 1, 1), ("m", 1, length - 1)]:
                number = book.remember(letter, at, many)
                self.assertEqual(book.memories()[-1], (number, letter, at, many))

    def test_stretches_that_are_none(self):
        for length in (5, GREATEST):
            book = Book(length)
            for at, many in bad_stretches(length):
                self.refuse(BadStretch, book, "remember", "a", at, many)

    def test_the_letter_is_refused_first(self):
        book = small_book()
        for letter in NO_LETTERS:
            self.refuse(BadLetter, book, "remember", letter, 0, 1)
            self.refuse(BadLetter, book, "remember", letter, 0, 11)
            self.refuse(BadLetter, book, "remember", letter, -1, 0)

    def test_forgotten(self):
        book = small_book()
        book.forget(4)
        self.assertEqual(book.memories(), [(2, "a", 1, 2)])
        for number in (0, -1, 1, 3, 4, 5, FAR, -FAR):
            self.refuse(NoNumber, book, "forget", number)
        book.forget(2)
        self.assertEqual((book.memories(), len(book.sayings())), ([], 2))


class Room(DeedsTest):
    def test_sayings(self):
        book = Book(30)
        for k in range(24):
            self.assertEqual(book.say(k, k + 1, 2, False), k + 1)
        self.refuse(Full, book, "say", 0, 1, 1, False)
        self.refuse(BadStretch, book, "say", 0, 30, 1, False)
        book.amend(24, 0, 1, 1, True)
        self.assertEqual(book.remember("a", 0, 1), 25)
        book.unsay(7)
        self.assertEqual(book.say(0, 9, 4, True), 26)
        self.refuse(Full, book, "say", 0, 1, 1, False)
        self.assertEqual(len(book.sayings()), 24)
        book.undo()
        self.assertEqual(book.say(0, 8, 4, True), 26)

    def test_memories(self):
        book = Book(30)
        for k in range(24):
            self.assertEqual(book.remember("a", k, 2), k + 1)
        self.refuse(Full, book, "remember", "a", 0, 1)
        self.refuse(BadStretch, book, "remember", "a", 0, 31)
        self.refuse(BadLetter, book, "remember", "B", 0, 31)
        self.refuse(BadLetter, book, "remember", "B", 0, 1)
        self.assertEqual(book.say(0, 1, 1, False), 25)
        book.forget(24)
        self.assertEqual(book.remember("b", 0, 30), 26)
        self.refuse(Full, book, "remember", "a", 0, 1)
        self.assertEqual(len(book.memories()), 24)


class Lengths(DeedsTest):
    def test_lengthened(self):
        book = Book(0)
        book.lengthen(1)
        book.lengthen(10 ** 39)
        self.assertEqual(book.length(), 10 ** 39 + 1)
        book.lengthen(GREATEST - 10 ** 39 - 1)
        self.assertEqual((book.length(), book.classes().count()), (GREATEST, GREATEST))

    def test_lengthened_too_little_or_too_much(self):
        for length in (0, 10, GREATEST - 1, GREATEST):
            book = Book(length)
            for many in (0, -1, -FAR, -length, 10 ** 40 - length, 10 ** 40, FAR):
                self.refuse(BadLength, book, "lengthen", many)
        book = small_book()
        self.refuse(BadLength, book, "lengthen", 10 ** 40 - 10)
        book.lengthen(10 ** 40 - 11)
        self.assertEqual(book.length(), GREATEST)

    def test_shortened(self):
        for length in (1, 10, GREATEST):
            book = Book(length)
            book.shorten(length)
            self.assertEqual(seen(book), (0, 1, [], [], 1, 0))
            self.refuse(BadLength, book, "shorten", 1)

    def test_shortened_too_little_or_too_much(self):
        for length in (0, 10, GREATEST):
            book = Book(length)
            for many in (0, -1, -FAR, -length, length + 1, 10 ** 40, FAR):
                self.refuse(BadLength, book, "shorten", many)

    def test_places_in_use(self):
        for deed in [("say", 0, 4, 3, False), ("say", 4, 0, 3, True), ("say", 5, 5, 2, False), ("say", 1, 3, 4, True),
                     ("remember", "a", 4, 3), ("remember", "a", 0, 7)]:
            with self.subTest(deed):
                book = Book(10)
                getattr(book, deed[0])(*deed[1:])
                for many in (4, 5, 10):
                    self.refuse(InUse, book, "shorten", many)
                for many in (0, -1, 11):
                    self.refuse(BadLength, book, "shorten", many)
                book.shorten(3)
                self.assertEqual(book.length(), 7)
                self.refuse(InUse, book, "shorten", 1)

    def test_places_in_use_of_any_of_them(self):
        book = Book(GREATEST)
        book.remember("a", 10 ** 39, 10 ** 38)
        book.say(0, 10 ** 39 - 1, 5, True)
        book.say(0, 1, 10 ** 39, False)
        used = 10 ** 39 + 10 ** 38
        self.refuse(InUse, book, "shorten", GREATEST - used + 1)
        book.forget(1)
        self.refuse(InUse, book, "shorten", GREATEST - 10 ** 39 - 3)
        book.shorten(GREATEST - 10 ** 39 - 4)
        self.assertEqual(book.length(), 10 ** 39 + 4)
        book.unsay(2)
        book.shorten(3)
        self.refuse(InUse, book, "shorten", 1)
        book.unsay(3)
        book.shorten(10 ** 39 + 1)
        self.assertEqual(book.length(), 0)


if __name__ == "__main__":
    unittest.main()
