"""The errors of the program: one class for each way of refusing, all under ChangeError."""


class ChangeError(ValueError):
    """Anything that the program refuses."""


class NoText(ChangeError):
    """What was to be read is not the text of such a thing."""


class NotRight(ChangeError):
    """A program is not right: at a row of a part, or at a kind, a box or a part's head (row -1)."""

    def __init__(self, name, row):
        self.name = name
        self.row = row


class Stuck(ChangeError):
    """A row, a term or a beginning cannot be done."""

    def __init__(self, name, row):
        self.name = name
        self.row = row


class NoFit(ChangeError):
    """A change does not fit a program at a name."""

    def __init__(self, name):
        self.name = name


class NoLead(ChangeError):
    """A change lacks a lead for a field of a kind, or for a box (then the field is "")."""

    def __init__(self, name, field):
        self.name = name
        self.field = field


class NotNow(ChangeError):
    """A change cannot come in at this time, for a row of a frame."""

    def __init__(self, frame, row):
        self.frame = frame
        self.row = row
