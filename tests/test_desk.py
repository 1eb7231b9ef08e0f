"""The desk: orders, questions, their answers, and the words of refusals."""

import random
import unittest

from reprise.book import Book
from reprise.desk import Desk
from reprise.errors import BadLength
from reprise.pages import page, read
from tests.books import PlainBook, answers, bare, by_hand, plain_answers, seen, some_deed
from tests.plain import FAR, GREATEST, plain_firsts, plain_notes, plain_parted, some_saying

REFUSED = {"BadLength": "length", "BadStretch": "stretch", "NoPlace": "place", "NoNumber": "number",
           "BadLetter": "letter", "Full": "full", "InUse": "in use", "NothingLeft": "nothing left"}

# One good order or question of each kind for the desk below.
ORDERS = ["say 0 4 4 straight", "say 0 8 4 turned", "unsay 1", "amend 2 0 1 1 straight", "note g 0 2", "forget 3",
          "longer 3", "shorter 1", "undo", "redo", "firsts", "free", "first 8", "at 9", "alike 0 4 4 straight",
          "quarrel", "page"]

NO_NUMBERS = ["x", "-1", "+1", "-0", "00", "01", "1x", "1.0", "1_0", "1,0", "0x1", "one", "straight", "1" * 41,
              "9" * 45, "0" * 41, "1" * 4300, "1" * 4301, "3" * 5900, "0" + "1" * 40]


def small_desk():
    """A desk with sayings 1 and 2, the memory 3, and a deed that is undone."""
    desk = Desk(12)
    for text in ("say 0 4 4 straight", "say 0 8 4 turned", "note g 0 2", "longer 5", "undo"):
        desk.tell(text)
    return desk


def order_of(name, words):
    """The order for a deed."""
    word = {"remember": "note", "lengthen": "longer", "shorten": "shorter"}.get(name, name)
    texts = [("turned" if part else "straight") if isinstance(part, bool) else str(part) for part in words]
    return " ".join([word] + texts)


def plain_answer(plain, name, words):
    """What a desk answers to the order for a deed."""
    refusal, told = plain.attempt(name, words)
    if refusal:
        return "no: " + REFUSED[refusal]
    return {"say": f"saying {told}", "remember": f"note {told}", "unsay": "unsaid", "amend": "amended",
            "forget": "forgotten", "lengthen": f"length {plain.now[0]}", "shorten": f"length {plain.now[0]}",
            "undo": "undone", "redo": "redone"}[name]


class Answers(unittest.TestCase):
    def hold(self, desk, told):
        for text, answer in told:
            self.assertEqual(desk.tell(text), answer, text)

    def test_lengths(self):
        for length in (0, 1, 10 ** 39, GREATEST):
            desk = Desk(length)
            self.assertEqual((desk.book().length(), desk.tell("firsts")), (length, str(length)))
        for length in (-1, -FAR, 10 ** 40, FAR):
            with self.assertRaises(BadLength):
                Desk(length)

    def test_orders(self):
        self.hold(Desk(12), [
            ("say 0 4 4 straight", "saying 1"), ("say 0 8 4 turned", "saying 2"), ("note g 0 2", "note 3"),
            ("note d 6 3", "note 4"), ("amend 2 0 8 4 straight", "amended"), ("unsay 1", "unsaid"),
            ("forget 3", "forgotten"), ("longer 8", "length 20"), ("shorter 3", "length 17"), ("undo", "undone"),
            ("undo", "undone"), ("redo", "redone"), ("page", "song 20 5\nsay 2 0 8 4 straight\nnote 4 d 6 3"),
            ("say 1 1 1 turned", "saying 5"), ("note a 19 1", "note 6"),
            ("page", "song 20 7\nsay 2 0 8 4 straight\nnote 4 d 6 3\nsay 5 1 1 1 turned\nnote 6 a 19 1")])

    def test_questions(self):
        desk = Desk(12)
        self.hold(desk, [("firsts", "12"), ("free", "12"), ("quarrel", "none"), ("at 0", "-"), ("first 11", "11"),
                         ("page", "song 12 1"), ("alike 0 1 1 straight", "no"), ("alike 3 3 9 straight", "yes"),
                         ("alike 0 0 2 turned", "no"), ("alike 7 7 1 turned", "yes")])
        desk.tell("say 0 4 4 straight")
        desk.tell("say 0 8 4 turned")
        self.hold(desk, [("firsts", "4"), ("free", "4"), ("first 0", "0"), ("first 8", "3"), ("first 11", "0"),
                         ("alike 4 8 4 turned", "yes"), ("alike 4 8 4 straight", "no"),
                         ("alike 1 5 3 straight", "yes"), ("alike 5 9 2 turned", "yes"), ("quarrel", "none")])
        desk.tell("note g 0 2")
        self.hold(desk, [("free", "2"), ("at 0", "g"), ("at 9", "-"), ("at 10", "g"), ("at 11", "g"), ("at 2", "-")])
        desk.tell("note d 6 4")
        self.hold(desk, [("free", "0"), ("at 9", "d"), ("quarrel", "none")])
        desk.tell("note e 11 1")
        self.hold(desk, [("free", "0"), ("at 11", "g"), ("quarrel", "3 5 0"), ("firsts", "4")])
        desk.tell("undo")
        self.hold(desk, [("quarrel", "none")])

    def test_great_songs(self):
        far = str(GREATEST - 1)
        desk = Desk(GREATEST)
        self.hold(desk, [
            (f"say 0 7 {GREATEST - 7} straight", "saying 1"), ("firsts", "7"), (f"first {far}", str((GREATEST - 1) % 7)),
            (f"note q {far} 1", "note 2"), (f"at {(GREATEST - 1) % 7}", "q"), ("free", "6"),
            (f"alike 0 14 {GREATEST - 14} straight", "yes"), (f"alike 0 8 {GREATEST - 8} straight", "no"),
            (f"note r 0 {GREATEST}", "note 3"), ("quarrel", f"2 3 {(GREATEST - 1) % 7}"), ("longer 1", "no: length"),
            ("shorter 1", "no: in use"), ("unsay 1", "unsaid"), ("firsts", str(GREATEST)), ("free", "0"),
            ("quarrel", f"2 3 {far}"), ("forget 3", "forgotten"), ("free", str(GREATEST - 1)), ("forget 2", "forgotten"),
            (f"shorter {GREATEST}", "length 0"), ("firsts", "0"), ("free", "0"), (f"longer {GREATEST}", f"length {GREATEST}")])

    def test_kinds(self):
        desk = small_desk()
        for text in ORDERS + ["", "no", "first 99", "note X 0 1"]:
            self.assertIs(type(desk.tell(text)), str)
        self.assertIs(type(desk.book()), Book)

    def test_against_a_plain_book(self):
        chance = random.Random(141)
        heard = set()
        for length in (0, 1, 3, 12, 30, 30, 10 ** 39, GREATEST):
            for _ in range(6):
                desk, plain = Desk(length), PlainBook(length)
                for _ in range(120):
                    name, words = some_deed(chance, desk.book())
                    text = order_of(name, words)
                    if any(part < 0 or part >= 10 ** 40 for part in words if isinstance(part, int)) or "" in words:
                        answer = "no: order"
                    else:
                        answer = plain_answer(plain, name, words)
                    self.assertEqual(desk.tell(text), answer, text)
                    self.assertEqual(seen(desk.book()), plain.seen())
                    heard.add(answer)
        for word in ["length", "stretch", "number", "letter", "full", "in use", "nothing left", "order"]:
            self.assertIn(f"no: {word}", heard)

    def test_questions_against_a_plain_joining(self):
        chance = random.Random(142)
        seen_answers = {"yes": 0, "no": 0}
        for _ in range(40):
            length = chance.randint(1, 30)
            desk = Desk(length)
            for _ in range(25):
                desk.tell(order_of(*some_deed(chance, desk.book())))
                book = desk.book()
                if not 0 < book.length() < 90:
                    desk.tell("undo")
                    continue
                count, free, quarrel = plain_answers(book.length(), bare(book), book.memories())
                told = plain_firsts(book.length(), bare(book))
                notes = plain_notes(told, book.memories())
                self.hold(desk, [("firsts", str(count)), ("free", str(free)), ("page", page(book)),
                                 ("quarrel", " ".join(map(str, quarrel)) if quarrel else "none")])
                for place in chance.sample(range(book.length()), min(5, book.length())):
                    self.hold(desk, [(f"first {place}", str(told[place])), (f"at {place}", notes.get(told[place], "-"))])
                asked = some_saying(chance, book.length(), 4)
                answer = "yes" if plain_parted(told, asked) is None else "no"
                self.hold(desk, [(order_of("alike", asked), answer)])
                seen_answers[answer] += 1
        self.assertGreater(min(seen_answers.values()), 100)

    def test_questions_change_nothing(self):
        desk = small_desk()
        before, told = seen(desk.book()), answers(desk.book())
        for text in ["firsts", "free", "first 8", "first 12", "at 9", "at 12", "alike 0 4 4 straight",
                     "alike 0 9 4 straight", "quarrel", "page", "", "sing"]:
            desk.tell(text)
            self.assertEqual((seen(desk.book()), answers(desk.book())), (before, told))


class Refusals(unittest.TestCase):
    def refuse(self, desk, text, word):
        """An order is answered by a word, and all stays as it was."""
        before = seen(desk.book())
        self.assertEqual(desk.tell(text), f"no: {word}", text[:200])
        self.assertEqual(seen(desk.book()), before)

    def test_stretches(self):
        desk = small_desk()
        for words in ["0 12 1", "12 0 1", "0 0 0", "0 0 13", "1 0 12", f"{GREATEST} 0 1", f"0 0 {GREATEST}"]:
            for way in ("straight", "turned"):
                self.refuse(desk, f"say {words} {way}", "stretch")
                self.refuse(desk, f"amend 1 {words} {way}", "stretch")
                self.refuse(desk, f"alike {words} {way}", "stretch")
        for words in ["12 1", "0 0", "0 13", "11 2", f"{GREATEST} 1"]:
            self.refuse(desk, f"note a {words}", "stretch")

    def test_places(self):
        for desk in (Desk(0), small_desk()):
            for place in (desk.book().length(), desk.book().length() + 1, GREATEST):
                self.refuse(desk, f"first {place}", "place")
                self.refuse(desk, f"at {place}", "place")

    def test_numbers(self):
        desk = small_desk()
        for number in (0, 3, 4, 5, GREATEST):
            self.refuse(desk, f"unsay {number}", "number")
            self.refuse(desk, f"amend {number} 0 1 1 straight", "number")
            self.refuse(desk, f"amend {number} 0 99 1 straight", "number")
        for number in (0, 1, 2, 4, GREATEST):
            self.refuse(desk, f"forget {number}", "number")

    def test_letters(self):
        desk = small_desk()
        for letter in ["A", "ab", "-", "7", "0", "12", "straight", "note", "`", "{", "a.", "z~", "1" * 5000]:
            self.refuse(desk, f"note {letter} 0 1", "letter")
            self.refuse(desk, f"note {letter} 0 99", "letter")

    def test_full(self):
        desk = Desk(30)
        for k in range(24):
            self.assertEqual(desk.tell(f"say {k} {k + 1} 1 straight"), f"saying {2 * k + 1}")
            self.assertEqual(desk.tell(f"note a {k} 1"), f"note {2 * k + 2}")
        self.refuse(desk, "say 0 1 1 straight", "full")
        self.refuse(desk, "say 0 30 1 straight", "stretch")
        self.refuse(desk, "note a 0 1", "full")
        self.refuse(desk, "note a 0 31", "stretch")
        self.refuse(desk, "note A 0 1", "letter")
        self.refuse(desk, "note a\n 0 1", "letter")
        self.assertEqual(desk.tell("alike 0 24 1 straight"), "yes")
        self.assertEqual(desk.tell("alike 0 25 1 straight"), "no")
        self.assertEqual(desk.tell("unsay 1"), "unsaid")
        self.assertEqual(desk.tell("say 0 1 1 straight"), "saying 49")
        self.assertEqual(desk.tell("forget 2"), "forgotten")
        self.assertEqual(desk.tell("note a 0 1"), "note 50")

    def test_lengths(self):
        desk = small_desk()
        for many in (0, GREATEST, 10 ** 40 - 12):
            self.refuse(desk, f"longer {many}", "length")
        for many in (0, 13, GREATEST):
            self.refuse(desk, f"shorter {many}", "length")
        self.refuse(desk, "shorter 1", "in use")
        self.refuse(desk, "shorter 12", "in use")
        self.assertEqual(desk.tell(f"longer {10 ** 40 - 13}"), f"length {GREATEST}")

    def test_nothing_left(self):
        desk = Desk(5)
        self.refuse(desk, "undo", "nothing left")
        self.refuse(desk, "redo", "nothing left")
        desk.tell("longer 1")
        self.refuse(desk, "redo", "nothing left")
        desk.tell("undo")
        self.refuse(desk, "undo", "nothing left")
        self.assertEqual(desk.tell("redo"), "redone")

    def test_first_words(self):
        desk = small_desk()
        for text in ["", "sing", "Say 0 4 4 straight", "SAY 0 4 4 straight", "song 12 4", "says 0 4 4 straight",
                     "remember g 0 2", "lengthen 3", "shorten 1", "saying 1", "no: order", "help", "0", "- 1",
                     "undone", "Undo", "twin", "book", "alikes 0 4 4 straight", "if_said 0 1 1 straight", "length"]:
            self.refuse(desk, text, "order")

    def test_counts_of_words(self):
        desk = small_desk()
        for text in ORDERS:
            words = text.split(" ")
            self.refuse(desk, text + " 1", "order")
            self.refuse(desk, text + " straight", "order")
            for k in range(1, len(words)):
                self.refuse(desk, " ".join(words[:k]), "order")
                self.refuse(desk, " ".join(words[:k] + words[k:k + 1] + words[k:]), "order")

    def test_blanks_and_line_feeds(self):
        desk = small_desk()
        for text in ORDERS:
            words = text.split(" ")
            for wrong in [" " + text, text + " ", text + "\n", "\n" + text, text + " \n", "\n " + text, "  " + text,
                          text.upper(), text + "\n" + text]:
                self.refuse(desk, wrong, "order")
            for k in range(1, len(words)):
                for between in ("  ", "\n", "", "   ", " \n ", "\n\n"):
                    self.refuse(desk, " ".join(words[:k]) + between + " ".join(words[k:]), "order")
        for text in [" ", "  ", "\n", "\n\n", " \n ", "note  0 1", "note\na\n0\n1", "note \n  1", "note  \n 0 1"]:
            self.refuse(desk, text, "order")

    def test_line_feeds_within_words(self):
        desk = small_desk()
        for text in ORDERS:
            words = text.split(" ")
            for k, word in enumerate(words):
                due = "letter" if words[0] == "note" and k == 1 else "order"
                for wrong in [word + "\n", "\n" + word, "\n" + word + "\n", word + "\n" + word, "\n", "\n\n"]:
                    self.refuse(desk, " ".join(words[:k] + [wrong] + words[k + 1:]), due)

    def test_line_feeds_within_a_letters_word(self):
        desk = small_desk()
        for letter in ["\nc", "c\n", "a\nb", "\n", "\n\n", "\n" * 5000, "1\n", "note\na"]:
            self.refuse(desk, f"note {letter} 0 1", "letter")
            self.refuse(desk, f"note {letter} 0 99", "letter")
            self.refuse(desk, f"note {letter} {GREATEST} {GREATEST}", "letter")
            for rest in ["", " 0", " 0 1 1", " x 1", " 0 x", " 0 01", " 0 1 ", "  0 1", " 0 1\n", " 0\n 1", " 0\n1"]:
                self.refuse(desk, f"note {letter}{rest}", "order")
            for order in ["unsay", "forget", "longer", "first", "at", "sing"]:
                self.refuse(desk, f"{order} {letter}", "order")
        self.assertEqual(desk.tell("note c 0 1"), "note 4")

    def test_words_that_are_no_numbers(self):
        desk = small_desk()
        for text in ORDERS:
            words = text.split(" ")
            for k in range(1, len(words)):
                if words[k].isdigit():
                    for word in NO_NUMBERS:
                        self.refuse(desk, " ".join(words[:k] + [word] + words[k + 1:]), "order")

    def test_neither_straight_nor_turned(self):
        desk = small_desk()
        for way in ["Straight", "TURNED", "turn", "bent", "True", "False", "0", "1", "straightturned", "-"]:
            for words in ["say 0 4 4", "say 0 99 4", "amend 1 0 4 4", "amend 9 0 4 4", "alike 0 4 4", "alike 99 4 4"]:
                self.refuse(desk, f"{words} {way}", "order")

    def test_no_order_comes_ahead_of_other_refusals(self):
        desk = small_desk()
        for text in ["note AB x 1", "note AB 0 x", "amend 99 0 0 1 bent", "amend x 0 0 0 straight", "say 0 x 0 turned",
                     "alike 99 99 x straight", "note A 0 -1", "amend 99 0 0 00 straight"]:
            self.refuse(desk, text, "order")

    def test_what_could_be_redone_stays(self):
        desk = small_desk()
        for text in ["say 0 12 1 straight", "unsay 3", "amend 3 0 0 1 straight", "note A 0 1", "forget 1", "longer 0",
                     "shorter 12", "sing", ""]:
            self.assertTrue(desk.tell(text).startswith("no: "))
        self.assertEqual(desk.tell("redo"), "redone")
        self.assertEqual(desk.tell("longer 1"), "length 18")

    def test_it_never_raises(self):
        chance = random.Random(143)
        desk = small_desk()
        parts = ["say", "note", "unsay", "amend", "forget", "longer", "shorter", "undo", "redo", "first", "at", "alike",
                 "quarrel", "page", "firsts", "free", "straight", "turned", "0", "1", "3", "12", "a", "Z", "-1", "",
                 "9" * 40, "9" * 50, "\n", "~", "{}", "'"]
        words = {"length", "stretch", "place", "number", "letter", "full", "in use", "nothing left", "order"}
        for _ in range(20000):
            answer = desk.tell(" ".join(chance.choice(parts) for _ in range(chance.randint(0, 6))))
            self.assertIs(type(answer), str)
            if answer.startswith("no: "):
                self.assertIn(answer[4:], words)


class Books(unittest.TestCase):
    def test_the_very_one(self):
        desk = Desk(12)
        book = desk.book()
        self.assertIs(desk.book(), book)
        desk.tell("say 0 4 4 straight")
        self.assertIs(desk.book(), book)
        self.assertEqual(book.sayings(), [(1, 0, 4, 4, False)])

    def test_what_is_done_by_hand(self):
        desk = Desk(12)
        book = desk.book()
        self.assertEqual(desk.tell("firsts"), "12")
        book.say(0, 4, 4, False)
        self.assertEqual(desk.tell("firsts"), "8")
        book.remember("a", 0, 1)
        self.assertEqual((desk.tell("at 4"), desk.tell("free")), ("a", "7"))
        book.lengthen(1)
        self.assertEqual((desk.tell("page"), desk.tell("note b 4 1")), ("song 13 3\nsay 1 0 4 4 straight\nnote 2 a 0 1",
                                                                       "note 3"))
        self.assertEqual(desk.tell("quarrel"), "2 3 0")
        book.undo()
        self.assertEqual((desk.tell("quarrel"), desk.tell("redo"), desk.tell("quarrel")), ("none", "redone", "2 3 0"))
        book.amend(1, 0, 4, 4, True)
        self.assertEqual((desk.tell("quarrel"), desk.tell("first 7")), ("none", "0"))
        desk.tell("undo")
        self.assertEqual(book.sayings(), [(1, 0, 4, 4, False)])
        self.assertEqual(book.redoable(), 1)

    def test_two_desks(self):
        one, other = Desk(12), Desk(12)
        one.tell("say 0 4 4 straight")
        one.tell("note a 0 2")
        self.assertEqual((other.tell("firsts"), other.tell("page"), other.tell("undo")),
                         ("12", "song 12 1", "no: nothing left"))
        self.assertEqual(other.tell("note b 0 1"), "note 1")
        self.assertEqual(one.tell("page"), "song 12 3\nsay 1 0 4 4 straight\nnote 2 a 0 2")

    def test_a_twin_of_its_book(self):
        desk = small_desk()
        twin = desk.book().twin()
        desk.tell("unsay 1")
        twin.lengthen(7)
        self.assertEqual((len(twin.sayings()), desk.book().length()), (2, 12))

    def test_a_page_is_read_back(self):
        desk = small_desk()
        book = read(desk.tell("page"))
        self.assertEqual(seen(book)[:4], seen(desk.book())[:4])

    def test_great_songs_by_hand(self):
        chance = random.Random(144)
        for length in (10 ** 39, GREATEST):
            desk = Desk(length)
            for _ in range(60):
                desk.tell(order_of(*some_deed(chance, desk.book())))
                book = desk.book()
                classes, heard = by_hand(book.length(), bare(book), book.memories())
                quarrel = heard.quarrel()
                self.assertEqual([desk.tell("firsts"), desk.tell("free"), desk.tell("quarrel")],
                                 [str(classes.count()), str(heard.free()),
                                  "none" if quarrel is None else "{} {} {}".format(*quarrel)])
                if book.length() > 0:
                    place = chance.randrange(book.length())
                    self.assertEqual([desk.tell(f"first {place}"), desk.tell(f"at {place}")],
                                     [str(classes.first(place)), heard.note(place) or "-"])


if __name__ == "__main__":
    unittest.main()
