"""The refusals of the package."""


class StrideError(ValueError):
    """Any refusal."""


class NoStanding(StrideError):
    """A text is no standing of the board: at is the first word that is not due."""

    def __init__(self, at):
        super().__init__(f"word {at} is wrong or lacking")
        self.at = at


class NoBook(StrideError):
    """Rules are no book for the board: at is the first that may not stand."""

    def __init__(self, at):
        super().__init__(f"rule {at} is wrong or lacking")
        self.at = at


class NoDeed(StrideError):
    """There is no such deed: at is the place of the first in the row that is none."""

    def __init__(self, at):
        super().__init__(f"number {at} in the row is no deed")
        self.at = at


class NoTurning(StrideError):
    """No turning leads there: at is the first class whose kinds are not the same."""

    def __init__(self, at):
        super().__init__(f"class {at} has no turning that leads there")
        self.at = at


class NotEven(StrideError):
    """A book is not even."""


class NoRound(StrideError):
    """Cells are not three unlike ones of one class."""


class NoPair(StrideError):
    """Cells are not two unlike ones of one class, or the book is even."""


class Barred(StrideError):
    """No deeds lead there: paper shows it."""

    def __init__(self, paper):
        super().__init__("no deeds lead there")
        self.paper = paper


class TooMany(StrideError):
    """More standings can come than are to be looked at: many is how many can."""

    def __init__(self, many):
        super().__init__(f"{many} standings can come")
        self.many = many


class Few(StrideError):
    """More deeds are to be undone than were done: many is how many the log has."""

    def __init__(self, many):
        super().__init__(f"the log has {many} deeds")
        self.many = many


class NoPlan(StrideError):
    """A text tells no plans: row is the first that is none."""

    def __init__(self, row):
        super().__init__(f"row {row} is no plan")
        self.row = row


class NoName(StrideError):
    """No standing is kept under the name."""

    def __init__(self, name):
        super().__init__(f"nothing is kept under the name {name}")
        self.name = name


class Full(StrideError):
    """A log would pass its limit: over is by how many deeds."""

    def __init__(self, over):
        super().__init__(f"the log would pass the limit by {over}")
        self.over = over
