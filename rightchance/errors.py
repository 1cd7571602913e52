"""The errors that the program raises, one class for each kind of failure."""


class ChanceError(ValueError):
    """The base class of all errors of the program."""


class NoSchema(ChanceError):
    """The tables that were passed are not a schema."""


class NoRow(ChanceError):
    """A name and a row are not a place of the schema."""


class NoShare(ChanceError):
    """Two integers are not the share or the chance that is needed."""


class DoubleFact(ChanceError):
    """Two facts have the same place."""


class NoFact(ChanceError):
    """No fact of the store has the place."""


class NoPlan(ChanceError):
    """A plan is not valid, or there is no plan of the kind that is asked for."""


class NoChance(ChanceError):
    """A chance given a question is asked for, and the chance of that question is 0."""


class NoQuestion(ChanceError):
    """A question is not valid; join is the index of its first bad join, or None if the fault is in no single join."""

    def __init__(self, join):
        ChanceError.__init__(self, "the question is not valid")
        self.join = join


class BadText(ChanceError):
    """A text cannot be read; line and at are the indexes of the line and of the character where it goes wrong."""

    def __init__(self, line, at):
        ChanceError.__init__(self, "the text cannot be read")
        self.line = line
        self.at = at


class NoKept(ChanceError):
    """No question is kept under the number."""

    def __init__(self, number):
        ChanceError.__init__(self, "no question is kept under this number")
        self.number = number
