"""Words as they stand on a page and in an order."""

MOST_FIGURES = 40


class Unfit(Exception):
    """Words that do not fit where they stand; whoever reads them answers this in its own way."""


def words_of(row):
    """The words of a row, with one blank between each two.

    A line feed parts no words: any word may stand as a letter in an order, also one
    that has a line feed. Wherever else such a word stands, it fits nothing.
    """
    words = row.split(" ")
    if "" in words:
        raise Unfit("one blank stands between words, none ahead and none behind")
    return words


def number_of(word):
    """The number that a word tells by figures alone.

    How many figures there are is seen first: of very many Python makes no number.
    """
    if len(word) > MOST_FIGURES or not word.isascii() or not word.isdigit():
        raise Unfit("a number has at most 40 figures and no other signs")
    if len(word) > 1 and word.startswith("0"):
        raise Unfit("a number has no noughts ahead")
    return int(word)


def turned_of(word):
    """Whether a word tells that a saying is turned."""
    if word not in ("straight", "turned"):
        raise Unfit("a saying is straight or turned")
    return word == "turned"


def saying_of(one, other, many, way):
    """The saying (one, other, many, turned) that four words tell."""
    return (number_of(one), number_of(other), number_of(many), turned_of(way))


def way_word(turned):
    """The word for a straight saying or for a turned one."""
    return "turned" if turned else "straight"
