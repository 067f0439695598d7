"""The errors of the package, each under the kind of failure to which it belongs."""


class ExitError(ValueError):
    """Any failure that the package reports."""


class InvalidProgram(ExitError):
    """Paragraphs that do not make a program."""


class BadSize(InvalidProgram):
    """Too few paragraphs, or too many paragraphs, statements, performs or jumps."""


class BadName(InvalidProgram):
    """A word that is not a name."""

    def __init__(self, word):
        super().__init__(f"{word!r} is not a name")
        self.word = word


class DuplicateName(InvalidProgram):
    """A name that an earlier paragraph has."""

    def __init__(self, word):
        super().__init__(f"an earlier paragraph has the name {word!r}")
        self.word = word


class UnknownName(InvalidProgram):
    """A word that names a paragraph where there is none of that name."""

    def __init__(self, word):
        super().__init__(f"no paragraph has the name {word!r}")
        self.word = word


class BackwardStretch(InvalidProgram):
    """A stretch, given by names, whose last paragraph stands before its first."""

    def __init__(self, first, last):
        super().__init__(f"the paragraph {last!r} stands before {first!r}")
        self.first = first
        self.last = last


class ArmedTwice(ExitError):
    """A way that a rule refuses to store because the cell is not empty."""

    def __init__(self, held, way):
        super().__init__(f"the cell holds {held!r} and refuses {way!r}")
        self.held = held
        self.way = way


class NotArmed(ExitError):
    """A cell that is empty where a way was to be taken from it."""

    def __init__(self, paragraph):
        super().__init__(f"the cell of paragraph {paragraph} is empty")
        self.paragraph = paragraph


class LeftStretch(ExitError):
    """A stretch, given by indexes, that a run left before its end."""

    def __init__(self, first, last):
        super().__init__(f"the stretch from {first} to {last} has been left")
        self.first = first
        self.last = last


class CrossedStretch(ExitError):
    """A stretch, given by indexes, in which a run met the end of another one."""

    def __init__(self, first, last):
        super().__init__(f"the stretch from {first} to {last} has been crossed")
        self.first = first
        self.last = last


class Parted(ExitError):
    """A step that parts the two meanings."""


class WrongReturn(Parted):
    """A cell returns where the newest frame does not end."""

    def __init__(self, paragraph, way, steps, why):
        super().__init__(f"after {steps} steps paragraph {paragraph} returns to {way!r}, {why}")
        self.paragraph = paragraph
        self.way = way
        self.steps = steps
        self.why = why


class LostReturn(Parted):
    """The newest frame ends where the cell is empty."""

    def __init__(self, paragraph, way, steps):
        super().__init__(f"after {steps} steps paragraph {paragraph} has lost its return to {way!r}")
        self.paragraph = paragraph
        self.way = way
        self.steps = steps


class RefusedPerform(Parted):
    """A perform whose way the rule refuses to store."""

    def __init__(self, paragraph, way, steps):
        super().__init__(f"after {steps} steps the cell of paragraph {paragraph} refuses {way!r}")
        self.paragraph = paragraph
        self.way = way
        self.steps = steps


class NotProcedures(ExitError):
    """A program whose meanings part, so that it cannot be written out."""

    def __init__(self, kind, answers, steps):
        super().__init__(f"after {steps} steps, with the answers {answers!r}, the meanings part: {kind}")
        self.kind = kind
        self.answers = answers
        self.steps = steps


class BadListing(ExitError):
    """A text that is not the listing of a program."""
