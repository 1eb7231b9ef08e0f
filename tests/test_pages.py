"""Pages, written and read."""

import random
import unittest

from reprise.book import Book
from reprise.errors import BadPage, Full, NothingLeft
from reprise.pages import page, read
from tests.books import PlainBook, answers, attempt, seen, some_deed
from tests.plain import GREATEST

GOOD = ["song 12 9", "say 2 0 4 4 straight", "note 3 g 0 2", "say 5 8 0 4 turned", "note 8 d 11 1"]

# Words that are no numbers, wherever a number is due.
NO_NUMBERS = ["", "-1", "+1", "-0", "00", "01", "007", "x", "1x", "x1", "1.0", "1e3", "1_000", "1,000", "0x1", "one",
              "1" * 41, "0" * 41, "9" * 45, "1" * 4300, "1" * 4301, "7" * 5900, "0" + "1" * 40, "(1)", "~"]


def rows_with(at, row):
    """The good rows with another one in a place."""
    return "\n".join(GOOD[:at] + [row] + GOOD[at + 1:])


class Written(unittest.TestCase):
    def test_empty_books(self):
        self.assertEqual(page(Book(0)), "song 0 1")
        self.assertEqual(page(Book(GREATEST)), "song " + "9" * 40 + " 1")

    def test_sayings_and_memories_in_one_order(self):
        book = Book(12)
        book.say(0, 1, 1, True)
        book.say(0, 4, 4, False)
        book.remember("g", 0, 2)
        book.remember("q", 0, 2)
        book.say(8, 0, 4, True)
        book.unsay(1)
        book.say(0, 0, 12, False)
        book.say(0, 0, 12, False)
        book.remember("d", 11, 1)
        book.forget(4)
        book.unsay(6)
        book.unsay(7)
        self.assertEqual(page(book), "\n".join(GOOD))

    def test_numbers_of_more_figures_come_behind(self):
        book = Book(5)
        for k in range(12):
            book.say(0, 1, 1, False) if k % 2 else book.remember("a", 0, 1)
        numbers = [int(row.split(" ")[1]) for row in page(book).split("\n")[1:]]
        self.assertEqual(numbers, list(range(1, 13)))

    def test_great_numbers(self):
        book = Book(GREATEST)
        book.say(10 ** 39, 0, 10 ** 39, True)
        book.remember("z", GREATEST - 1, 1)
        self.assertEqual(page(book), "\n".join([
            "song " + "9" * 40 + " 3", "say 1 1" + "0" * 39 + " 0 1" + "0" * 39 + " turned",
            "note 2 z " + "9" * 39 + "8 1"]))

    def test_writing_changes_nothing(self):
        book = Book(9)
        book.say(0, 1, 5, True)
        book.lengthen(3)
        book.undo()
        before, told = seen(book), answers(book)
        self.assertEqual(page(book), page(book))
        self.assertEqual((seen(book), answers(book)), (before, told))

    def test_undone_deeds_do_not_stand_there(self):
        book = Book(9)
        book.say(0, 1, 5, True)
        book.undo()
        self.assertEqual(page(book), "song 9 1")


class ThereAndBack(unittest.TestCase):
    def hold(self, book):
        text = page(book)
        again = read(text)
        self.assertIs(type(again), Book)
        self.assertEqual(seen(again), seen(book)[:4] + (0, 0))
        self.assertEqual(page(again), text)
        return again

    def test_any_books(self):
        chance = random.Random(131)
        for length in (0, 1, 7, 40, 10 ** 39, GREATEST):
            for _ in range(8):
                book = Book(length)
                for _ in range(70):
                    attempt(book, *some_deed(chance, book))
                again = self.hold(book)
                self.assertEqual(answers(again), answers(book))

    def test_nothing_to_undo_or_redo(self):
        again = read("\n".join(GOOD))
        for name in ("undo", "redo"):
            with self.assertRaises(NothingLeft):
                getattr(again, name)()
        self.assertEqual((again.undoable(), again.redoable()), (0, 0))

    def test_it_goes_on(self):
        again = read("\n".join(GOOD))
        self.assertEqual([again.say(0, 0, 1, False), again.remember("a", 0, 1), again.coming()], [9, 10, 11])
        again.unsay(2)
        again.forget(3)
        again.amend(5, 0, 1, 1, False)
        self.assertEqual(page(again), "\n".join(["song 12 11", "say 5 0 1 1 straight", "note 8 d 11 1",
                                                 "say 9 0 0 1 straight", "note 10 a 0 1"]))
        while again.undoable():
            again.undo()
        self.assertEqual(page(again), "\n".join(GOOD))

    def test_it_does_as_any_book(self):
        chance = random.Random(132)
        for _ in range(20):
            book, plain = Book(20), PlainBook(20)
            for _ in range(40):
                name, words = some_deed(chance, book)
                attempt(book, name, words)
                plain.attempt(name, words)
            again = read(page(book))
            plain.past, plain.ahead = [], []
            for _ in range(40):
                name, words = some_deed(chance, again)
                self.assertEqual(attempt(again, name, words), plain.attempt(name, words))
                self.assertEqual(seen(again), plain.seen())

    def test_two_read_apart(self):
        one, other = read("\n".join(GOOD)), read("\n".join(GOOD))
        one.unsay(2)
        one.remember("x", 0, 12)
        self.assertEqual(page(other), "\n".join(GOOD))
        self.assertEqual((other.undoable(), other.coming()), (0, 9))

    def test_the_book_that_was_written_has_nothing_to_do_with_it(self):
        book = Book(9)
        book.say(0, 1, 5, True)
        again = read(page(book))
        again.unsay(1)
        book.remember("a", 0, 1)
        self.assertEqual((len(book.sayings()), again.memories(), again.coming()), (1, [], 2))

    def test_24_of_each_kind(self):
        rows = ["song " + "9" * 40 + " 999999"]
        for k in range(24):
            rows.append(f"say {20 * k + 1} {k} {GREATEST - 40 - k} 40 {'turned' if k % 2 else 'straight'}")
            rows.append(f"note {20 * k + 7} {'abc'[k % 3]} {10 ** 38 * k} {10 ** 38}")
        text = "\n".join(rows)
        book = read(text)
        self.assertEqual(page(book), text)
        self.assertEqual((len(book.sayings()), len(book.memories()), book.coming()), (24, 24, 999999))
        with self.assertRaises(Full):
            book.say(0, 0, 1, False)
        with self.assertRaises(Full):
            book.remember("a", 0, 1)

    def test_edges_that_are_good(self):
        for text in ["song 0 1", "song 0 999999", "song 1 1", "song " + "9" * 40 + " 1",
                     "song 5 2\nsay 1 0 0 5 straight", "song 5 999999\nnote 999998 a 4 1",
                     "song 5 3\nsay 1 4 0 1 turned\nnote 2 z 0 5", "song 5 9\nnote 3 a 0 1\nsay 7 0 4 1 straight"]:
            self.assertEqual(page(read(text)), text)


class Refused(unittest.TestCase):
    def refuse(self, text, at):
        with self.subTest(text[:200]):
            with self.assertRaises(BadPage) as caught:
                read(text)
            self.assertIs(type(caught.exception), BadPage)
            self.assertIs(type(caught.exception.at), int)
            self.assertEqual(caught.exception.at, at)

    def test_the_good_one_is_good(self):
        self.assertEqual(page(read("\n".join(GOOD))), "\n".join(GOOD))

    def test_first_rows(self):
        for row in ["", " ", "song", "song 12", "song 12 9 9", "song 12 9 straight", "Song 12 9", "songs 12 9", "12 9",
                    "SONG 12 9", " song 12 9", "song 12 9 ", "song  12 9", "song 12  9", "song\n12 9", "note 1 a 0 1",
                    "say 1 0 0 1 straight", "page 12 9", "song 12 0", "song 12 1000000", "song 12 " + "9" * 40,
                    "song 1" + "0" * 40 + " 9", "song 12 -9", "song twelve 9", "song 12 next"]:
            self.refuse(row, 0)
            self.refuse(rows_with(0, row), 0)
        for word in NO_NUMBERS:
            self.refuse(rows_with(0, f"song {word} 9"), 0)
            self.refuse(rows_with(0, f"song 12 {word}"), 0)

    def test_the_empty_text_and_line_feeds(self):
        self.refuse("", 0)
        self.refuse("\n", 0)
        self.refuse("\n" + "\n".join(GOOD), 0)
        self.refuse("song 12 9\n", 1)
        self.refuse("\n".join(GOOD) + "\n", 5)
        self.refuse("\n".join(GOOD) + "\n\n", 5)
        self.refuse("\n".join(GOOD) + "\n ", 5)
        self.refuse("song 12 9\n\n" + "\n".join(GOOD[1:]), 1)

    def test_rows_of_another_form(self):
        for at in (1, 2, 3, 4):
            for row in ["", " ", "say", "note", "song 12 9", "undo", "hear 4 g 0 2", "say 4", "note 4",
                        "say 4 0 4 4", "say 4 0 4 straight", "say 4 0 4 4 4 straight", "say 4 0 4 4 straight turned",
                        "note 4 g 0", "note 4 0 2", "note 4 g 0 2 2", "note 4 g 0 2 straight", "Say 4 0 4 4 straight",
                        "say 4 0 4 4 Straight", "say 4 0 4 4 bent", "say 4 0 4 4 True", "say 4 0 4 4 1",
                        "say 4 straight 0 4 4", "Note 4 g 0 2", "note g 4 0 2", "note 4 0 2 g", "4 0 4 4 straight"]:
                number = GOOD[at].split(" ")[1]
                self.refuse(rows_with(at, row.replace(" 4", f" {number}", 1)), at)

    def test_blanks(self):
        for at, row in enumerate(GOOD):
            self.refuse(rows_with(at, " " + row), at)
            self.refuse(rows_with(at, row + " "), at)
            words = row.split(" ")
            for k in range(1, len(words)):
                self.refuse(rows_with(at, " ".join(words[:k]) + "  " + " ".join(words[k:])), at)
                self.refuse(rows_with(at, " ".join(words[:k]) + " ".join(words[k:])), at)

    def test_a_word_too_many_or_too_few(self):
        for at, row in enumerate(GOOD):
            words = row.split(" ")
            for k in range(len(words)):
                self.refuse(rows_with(at, " ".join(words[:k] + words[k + 1:])), at)
                self.refuse(rows_with(at, " ".join(words[:k] + [words[k]] * 2 + words[k + 1:])), at)

    def test_words_that_are_no_numbers(self):
        for at in (1, 2, 3, 4):
            words = GOOD[at].split(" ")
            for k in range(1, len(words)):
                if words[k].isdigit():
                    for word in NO_NUMBERS + ["0" + words[k], "+" + words[k], "-" + words[k]]:
                        self.refuse(rows_with(at, " ".join(words[:k] + [word] + words[k + 1:])), at)

    def test_numbers_of_sayings_and_memories(self):
        for at, bad in [(1, ["0", "9", "10", "999999", "9" * 40]), (2, ["0", "1", "2", "9", "12"]),
                        (3, ["0", "1", "2", "3", "9"]), (4, ["0", "2", "4", "5", "9", "1000000"])]:
            words = GOOD[at].split(" ")
            for number in bad:
                self.refuse(rows_with(at, " ".join([words[0], number] + words[2:])), at)
        self.refuse("song 5 1\nsay 1 0 0 1 straight", 1)
        self.refuse("song 5 3\nnote 1 a 0 1\nnote 2 a 0 1\nnote 3 a 0 1", 3)
        self.refuse("song 5 9\nnote 1 a 0 1\nnote 1 a 0 1", 2)
        self.refuse("song 5 9\nnote 1 a 0 1\nsay 1 0 1 1 turned", 2)

    def test_stretches_that_are_none(self):
        for one, other, many in [(0, 9, 4), (9, 0, 4), (0, 0, 0), (12, 0, 1), (0, 12, 1), (0, 0, 13), (1, 0, 12),
                                 (GREATEST, 0, 1), (0, 0, GREATEST), (GREATEST, GREATEST, GREATEST)]:
            for way in ("straight", "turned"):
                self.refuse(rows_with(3, f"say 5 {one} {other} {many} {way}"), 3)
        for at, many in [(0, 0), (12, 1), (0, 13), (11, 2), (5, 8), (12, 0), (GREATEST, 1), (0, GREATEST)]:
            self.refuse(rows_with(2, f"note 3 g {at} {many}"), 2)
        self.refuse("song 0 9\nsay 1 0 0 0 straight", 1)
        self.refuse("song 0 9\nnote 1 a 0 0", 1)

    def test_letters_that_are_none(self):
        for letter in ["", "G", "gg", "-", "7", "`", "{", "a.", "A", "Z", "straight"]:
            self.refuse(rows_with(2, f"note 3 {letter} 0 2"), 2)

    def test_the_25th(self):
        says = [f"say {k} 0 1 1 straight" for k in range(1, 26)]
        self.assertEqual(len(read("\n".join(["song 5 99"] + says[:24])).sayings()), 24)
        self.refuse("\n".join(["song 5 99"] + says), 25)
        notes = [f"note {k} a 0 1" for k in range(31, 56)]
        self.assertEqual(len(read("\n".join(["song 5 99"] + says[:24] + notes[:24])).memories()), 24)
        self.refuse("\n".join(["song 5 99"] + notes), 25)
        self.refuse("\n".join(["song 5 99"] + says[:24] + notes), 49)
        self.refuse("\n".join(["song 5 99"] + says[:24] + notes[:2] + ["say 60 0 1 1 turned"] + notes[24:]), 27)

    def test_the_first_of_several_wrong_rows(self):
        wrong = ["song 12 0", "say 2 0 4 99 straight", "note 3 G 0 2", "say 5 8 0 4 bent", "note 8 d 11 1 "]
        for at in range(5):
            for later in range(at, 5):
                rows = GOOD[:at] + wrong[at:at + 1] + GOOD[at + 1:later] + wrong[later:]
                self.refuse("\n".join(rows[:5]), at)
        # A later row is not asked: the row that makes another one wrong may stand behind it.
        self.refuse("song 12 9\nsay 5 0 1 1 straight\nnote 3 a 0 1\nnote 4 a 0 99", 2)

    def test_other_texts(self):
        for text in ["song", "Reprise", "song 12 9 say 2 0 4 4 straight", "song 12 9;say 2 0 4 4 straight",
                     "song,12,9", "~" * 6000, " " * 6000]:
            self.refuse(text, 0)
        self.refuse("\n" * 6000, 0)

    def test_a_refused_text_leaves_no_trace(self):
        self.refuse(rows_with(4, "note 8 D 11 1"), 4)
        self.assertEqual(page(read("\n".join(GOOD))), "\n".join(GOOD))


if __name__ == "__main__":
    unittest.main()
