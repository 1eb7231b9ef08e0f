"""Pages: a book written as a text, and read back."""

from reprise.book import book_of
from reprise.checks import check_length
from reprise.errors import BadPage, RepriseError
from reprise.sheets import Sheet
from reprise.words import Unfit, number_of, saying_of, way_word, words_of

GREATEST_NEXT = 999999


def page(book):
    """The text of a book: its length and next number, then sayings and memories by their numbers."""
    rows = [(number, f"say {number} {one} {other} {many} {way_word(turned)}")
            for number, one, other, many, turned in book.sayings()]
    rows += [(number, f"note {number} {letter} {at} {many}") for number, letter, at, many in book.memories()]
    return "\n".join([f"song {book.length()} {book.coming()}"] + [row for number, row in sorted(rows)])


def read(text):
    """The book of a page."""
    sheet = None
    for at, row in enumerate(text.split("\n")):
        try:
            sheet = first_sheet(row) if sheet is None else with_row(sheet, row)
        except (Unfit, RepriseError):
            raise BadPage(at) from None
    return book_of(sheet)


def first_sheet(row):
    """The sheet that the first row of a page tells."""
    match words_of(row):
        case ["song", length, coming]:
            size = number_of(length)
            upcoming = number_of(coming)
            check_length(size)
            if upcoming < 1 or upcoming > GREATEST_NEXT:
                raise Unfit("a page has no such next number")
            return Sheet(size, upcoming, [], [])
        case _:
            raise Unfit("a page begins with the song")


def with_row(sheet, row):
    """A sheet with the saying or the memory of one more row of a page."""
    match words_of(row):
        case ["say", number, one, other, many, way]:
            return sheet.with_saying((rising(sheet, number), *saying_of(one, other, many, way)))
        case ["note", number, letter, at, many]:
            return sheet.with_memory((rising(sheet, number), letter, number_of(at), number_of(many)))
        case _:
            raise Unfit("a row tells a saying or a memory")


def rising(sheet, word):
    """The number that a word tells, above all that a sheet has and below its next one."""
    number = number_of(word)
    if number <= sheet.last_number() or number >= sheet.upcoming:
        raise Unfit("numbers rise from row to row, up to below the next number")
    return number
