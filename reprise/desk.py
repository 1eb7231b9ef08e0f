"""The desk: a book that is told orders and asked questions by texts, and answers by texts."""

from reprise.book import Book
from reprise.errors import BadLength, BadLetter, BadStretch, Full, InUse, NoNumber, NoPlace, NothingLeft
from reprise.likes import follows
from reprise.pages import page
from reprise.sheets import unnumbered
from reprise.words import Unfit, number_of, saying_of, words_of


def do_order(book, words):
    """Do what an order tells, or else answer a question.

    All words are read ahead of the deed: what is no order is never refused as a deed.
    """
    match words:
        case ["say", one, other, many, way]:
            saying = saying_of(one, other, many, way)
            fresh = book.say(*saying)
            return f"saying {fresh}"
        case ["unsay", number]:
            book.unsay(number_of(number))
            return "unsaid"
        case ["amend", number, one, other, many, way]:
            kept = number_of(number)
            saying = saying_of(one, other, many, way)
            book.amend(kept, *saying)
            return "amended"
        case ["note", letter, at, many]:
            fresh = book.remember(letter, number_of(at), number_of(many))
            return f"note {fresh}"
        case ["forget", number]:
            book.forget(number_of(number))
            return "forgotten"
        case ["longer", many]:
            book.lengthen(number_of(many))
            return f"length {book.length()}"
        case ["shorter", many]:
            book.shorten(number_of(many))
            return f"length {book.length()}"
        case ["undo"]:
            book.undo()
            return "undone"
        case ["redo"]:
            book.redo()
            return "redone"
        case _:
            return answer(book, words)


def answer(book, words):
    """The answer to a question."""
    match words:
        case ["firsts"]:
            return str(book.classes().count())
        case ["free"]:
            return str(book.heard().free())
        case ["first", place]:
            return str(book.classes().first(number_of(place)))
        case ["at", place]:
            return book.heard().note(number_of(place)) or "-"
        case ["alike", one, other, many, way]:
            saying = saying_of(one, other, many, way)
            return "yes" if follows(book.classes(), unnumbered(book.sayings()), saying) else "no"
        case ["quarrel"]:
            return quarrel_words(book.heard().quarrel())
        case ["page"]:
            return page(book)
        case _:
            raise Unfit("a desk has no such order and no such question")


def quarrel_words(quarrel):
    """The three numbers of a quarrel, or the word for none."""
    if quarrel is None:
        return "none"
    return " ".join([str(number) for number in quarrel])


class Desk:
    """A book, and answers to what is told of it."""

    def __init__(self, length):
        self.held = Book(length)

    def book(self):
        """The very book of the desk."""
        return self.held

    def tell(self, text):
        """The answer to an order or a question; what is refused is answered, too."""
        try:
            return do_order(self.held, words_of(text))
        except Unfit:
            return "no: order"
        except BadLength:
            return "no: length"
        except BadStretch:
            return "no: stretch"
        except NoPlace:
            return "no: place"
        except NoNumber:
            return "no: number"
        except BadLetter:
            return "no: letter"
        except Full:
            return "no: full"
        except InUse:
            return "no: in use"
        except NothingLeft:
            return "no: nothing left"
