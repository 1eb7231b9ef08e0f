"""What the program refuses, one class for each reason."""


class RepriseError(ValueError):
    """Any refusal."""


class BadLength(RepriseError):
    """A song cannot have this length."""


class BadStretch(RepriseError):
    """A stretch has no places, or places that the song has not."""


class NoPlace(RepriseError):
    """The song has no such place, or no such first."""


class NoNumber(RepriseError):
    """No saying, or no memory, has this number."""


class BadLetter(RepriseError):
    """A note is not one small letter from a to z."""


class Full(RepriseError):
    """The book takes no more of these."""


class InUse(RepriseError):
    """A saying or a memory has places that were to go."""


class NothingLeft(RepriseError):
    """There is nothing to undo, or to redo."""


class BadPage(RepriseError):
    """A text is no page; `at` is the place of its first wrong row."""

    def __init__(self, at):
        super().__init__(f"row {at} of the page is wrong")
        self.at = at
