"""The errors that the package raises, each directly under TiesError.

Their messages leave out what they were made with: that may be any value, and is told by the attributes.
"""


class TiesError(ValueError):
    """What all errors of the package are."""


class Unfit(TiesError):
    """An argument does not fit, or there is nothing of what was asked for."""


class BadText(TiesError):
    """A value is not the text that it should be."""


class BadNetwork(TiesError):
    """A value is no network; error is what network_error tells of it."""

    def __init__(self, error):
        TiesError.__init__(self, "this is no network of so many lines")
        self.error = error


class Unmendable(TiesError):
    """No network of near gates does the same to all keys; word is one that shows it."""

    def __init__(self, word):
        TiesError.__init__(self, "no network of near gates does the same to this word")
        self.word = word


class TooMany(TiesError):
    """There would be more than limit."""

    def __init__(self, limit):
        TiesError.__init__(self, "there are more than the limit")
        self.limit = limit


class NoName(TiesError):
    """No network has the name given."""

    def __init__(self, given):
        TiesError.__init__(self, "no network has this name")
        self.given = given


class Taken(TiesError):
    """A network has the name given already."""

    def __init__(self, given):
        TiesError.__init__(self, "a network has this name already")
        self.given = given


class BadBatch(TiesError):
    """A value is no batch of edits."""


class Rejected(TiesError):
    """The edit at place in a batch raised an error."""

    def __init__(self, place):
        TiesError.__init__(self, "an edit of the batch raised an error")
        self.place = place


class TooManyEdits(TiesError):
    """As many edits stand as may."""


class NothingToUndo(TiesError):
    """No edit stands."""


class NothingToRedo(TiesError):
    """No edit was taken back."""


class NoVersion(TiesError):
    """There is no version given."""

    def __init__(self, given):
        TiesError.__init__(self, "there is no such version")
        self.given = given
