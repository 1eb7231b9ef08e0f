"""What a book answers behind each deed, and what would be if a saying were said."""

import random
import unittest

from reprise.book import Book
from reprise.errors import BadStretch, NoPlace
from tests.blocks import some_block_songs
from tests.books import answers, attempt, bare, by_hand, plain_answers, reckoned, seen, some_deed
from tests.plain import GREATEST, bad_stretches, exchanged_pieces, plain_firsts, plain_notes, some_saying


class SmallSongs(unittest.TestCase):
    def hold(self, book):
        """Hold a book against a plain joining of its places; tell the first quarrel."""
        length, memories = book.length(), book.memories()
        told = plain_firsts(length, bare(book))
        notes = plain_notes(told, memories)
        count, free, quarrel = plain_answers(length, bare(book), memories)
        classes, heard = book.classes(), book.heard()
        self.assertEqual((classes.length(), classes.count(), heard.free(), heard.quarrel()),
                         (length, count, free, quarrel))
        self.assertEqual([classes.first(place) for place in range(length)], told)
        self.assertEqual([heard.note(place) for place in range(length)], [notes.get(first, "") for first in told])
        return quarrel

    def test_behind_each_deed(self):
        chance = random.Random(121)
        seen_quarrels = {True: 0, False: 0}
        for _ in range(40):
            book = Book(chance.choice([0, 1, 3, 10, 30]))
            for _ in range(60):
                attempt(book, *some_deed(chance, book))
                if book.length() < 90:
                    seen_quarrels[self.hold(book) is None] += 1
                elif book.redoable() == 0:
                    book.undo()
        self.assertGreater(min(seen_quarrels.values()), 200)

    def test_questions_asked_seldom(self):
        chance = random.Random(122)
        for _ in range(60):
            book = Book(20)
            for _ in range(40):
                attempt(book, *some_deed(chance, book))
                if chance.random() < 0.1 and book.length() < 90:
                    chance.choice([book.classes, book.heard, lambda: self.hold(book)])()
            while book.length() >= 90:
                book.undo()
            self.hold(book)

    def test_a_deed_of_each_kind(self):
        book = Book(6)
        self.assertEqual((book.classes().count(), book.heard().free()), (6, 6))
        book.say(0, 3, 3, False)
        self.assertEqual((book.classes().count(), book.heard().free()), (3, 3))
        book.remember("a", 4, 1)
        self.assertEqual((book.heard().shown(0, 6), book.heard().free()), ("-a--a-", 2))
        book.remember("b", 0, 2)
        self.assertEqual((book.heard().shown(0, 6), book.heard().quarrel()), ("ba-ba-", (2, 3, 1)))
        book.amend(1, 0, 3, 3, True)
        self.assertEqual((book.heard().shown(0, 6), book.heard().quarrel()), ("ba--ab", (2, 3, 1)))
        book.amend(1, 1, 3, 3, False)
        self.assertEqual((book.heard().shown(0, 6), book.heard().quarrel()), ("bbabab", None))
        book.unsay(1)
        self.assertEqual((book.heard().shown(0, 6), book.heard().quarrel()), ("bb--a-", None))
        book.lengthen(2)
        self.assertEqual((book.heard().shown(0, 8), book.heard().free(), book.classes().count()), ("bb--a---", 5, 8))
        book.forget(2)
        self.assertEqual((book.heard().shown(0, 8), book.heard().free()), ("bb------", 6))
        book.shorten(6)
        self.assertEqual((book.heard().shown(0, 2), book.heard().free(), book.classes().length()), ("bb", 0, 2))
        with self.assertRaises(NoPlace):
            book.heard().note(2)
        with self.assertRaises(NoPlace):
            book.classes().first(2)


class GreatSongs(unittest.TestCase):
    def test_behind_each_deed(self):
        chance = random.Random(123)
        for length in (10 ** 15, 10 ** 39, GREATEST - 10, GREATEST):
            book = Book(length)
            for _ in range(80):
                attempt(book, *some_deed(chance, book))
                self.assertEqual(answers(book), reckoned(*by_hand(book.length(), bare(book), book.memories())))

    def test_songs_of_blocks(self):
        chance = random.Random(124)
        for song in some_block_songs(125, 6):
            book = Book(song.length)
            for saying in song.sayings:
                book.say(*saying)
            self.assertEqual((book.classes().count(), book.heard().free()), (song.count(), song.count()))
            for place in [0, song.length - 1, chance.randrange(song.length)]:
                self.assertEqual(book.classes().first(place), song.first(place))

    def test_the_hardest_songs(self):
        chance = random.Random(126)
        book = Book(GREATEST)
        for saying in exchanged_pieces(chance, GREATEST, 24, 0.1):
            book.say(*saying)
        for k in range(24):
            many = GREATEST // (k + 2)
            book.remember(chance.choice("ab"), chance.randint(0, GREATEST - many), many)
        self.assertEqual(answers(book), reckoned(*by_hand(GREATEST, bare(book), book.memories())))
        for place in range(40):
            self.assertIn(book.heard().note(place), ("a", "b", ""))
            self.assertLessEqual(book.classes().first(GREATEST - 1 - place), GREATEST - 1 - place)


class IfSaid(unittest.TestCase):
    def hold(self, book, saying):
        """What would be is what a twin that says it tells, and the book stays as it is."""
        before, told = seen(book), answers(book)
        would = book.if_said(*saying)
        self.assertIs(type(would), tuple)
        self.assertEqual((seen(book), answers(book)), (before, told))
        classes, heard = by_hand(book.length(), bare(book) + [saying], book.memories())
        self.assertEqual(would, (classes.count(), heard.free(), heard.quarrel()))
        if len(book.sayings()) < 24:
            twin = book.twin()
            twin.say(*saying)
            self.assertEqual(would, (twin.classes().count(), twin.heard().free(), twin.heard().quarrel()))
        return would

    def test_small_songs(self):
        chance = random.Random(127)
        quarrels = {True: 0, False: 0}
        for _ in range(60):
            book = Book(chance.randint(1, 40))
            for _ in range(30):
                attempt(book, *some_deed(chance, book))
                if 0 < book.length() < 90:
                    saying = some_saying(chance, book.length(), book.length())
                    would = self.hold(book, saying)
                    self.assertEqual(would, plain_answers(book.length(), bare(book) + [saying], book.memories()))
                    quarrels[would[2] is None] += 1
        self.assertGreater(min(quarrels.values()), 100)

    def test_great_songs(self):
        chance = random.Random(128)
        for length in (10 ** 39, GREATEST):
            book = Book(length)
            for _ in range(40):
                attempt(book, *some_deed(chance, book))
                if book.length() > 0:
                    self.hold(book, some_saying(chance, book.length(), book.length()))

    def test_a_full_book(self):
        for length in (30, GREATEST):
            book = Book(length)
            for k in range(24):
                book.say(k, k + 1, 1, False)
            book.remember("a", 24, 1)
            book.remember("b", 26, 1)
            self.assertEqual(book.if_said(24, 25, 2, False), (length - 26, length - 27, (25, 26, 0)))
            self.hold(book, (24, 25, 2, False))
            with self.assertRaises(BadStretch):
                book.if_said(0, length, 1, False)

    def test_what_was_so_already(self):
        book = Book(GREATEST)
        book.say(0, 7, GREATEST - 7, False)
        book.remember("a", 0, 1)
        book.remember("b", 1, 1)
        self.assertEqual(book.if_said(14, 7, GREATEST - 20, False), (7, 5, None))
        self.assertEqual(book.if_said(1, 0, 1, False), (6, 5, (2, 3, 0)))
        self.assertEqual(book.if_said(0, 0, GREATEST, True)[0], 4)

    def test_kinds(self):
        book = Book(4)
        count, free, quarrel = book.if_said(0, 2, 2, False)
        self.assertEqual([type(count), type(free), quarrel], [int, int, None])
        book.remember("a", 0, 1)
        book.remember("b", 2, 1)
        quarrel = book.if_said(0, 2, 2, False)[2]
        self.assertIs(type(quarrel), tuple)
        self.assertEqual([type(number) for number in quarrel], [int, int, int])

    def test_stretches_that_are_none(self):
        for length in (5, GREATEST):
            book = Book(length)
            book.say(0, 1, 1, False)
            before = seen(book)
            for at, many in bad_stretches(length):
                for saying in [(at, 0, many, False), (0, at, many, True), (at, at, many, False)]:
                    with self.assertRaises(BadStretch) as caught:
                        book.if_said(*saying)
                    self.assertIs(type(caught.exception), BadStretch)
            self.assertEqual(seen(book), before)
        with self.assertRaises(BadStretch):
            Book(0).if_said(0, 0, 0, False)

    def test_undone_deeds_stay_undone(self):
        book = Book(9)
        book.say(0, 1, 1, False)
        book.undo()
        self.assertEqual(book.if_said(0, 3, 3, False), (6, 6, None))
        self.assertEqual((book.redoable(), book.coming()), (1, 1))
        book.redo()
        self.assertEqual(book.sayings(), [(1, 0, 1, 1, False)])


if __name__ == "__main__":
    unittest.main()
