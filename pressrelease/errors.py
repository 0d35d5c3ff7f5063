"""The errors of the package.

No error writes its fields into a message of its own: the fields may be any
values, and Python shows what an error was made from anyway.
"""


class PanelError(ValueError):
    """The base of all errors here but the two about something that is not there."""


class BadRow(PanelError):
    """Not a row of presses; index is the first wrong item, or None for the whole."""

    def __init__(self, index):
        self.index = index


class TooLarge(PanelError):
    """A panel has more buttons than the bound."""

    def __init__(self, bound):
        self.bound = bound


class LastButton(PanelError):
    """The only button of a panel cannot be taken away."""


class BadPanel(PanelError):
    """Not a panel; error is what panel_error says of it."""

    def __init__(self, error):
        self.error = error


class BadState(PanelError):
    """The value is not a state of the panel."""

    def __init__(self, value):
        self.value = value


class Busy(PanelError):
    """The desk cannot be changed while a watch of it runs."""


class TooManyEdits(PanelError):
    """As many edits stand as a desk can have."""


class SameButton(PanelError):
    """The value stands where two different buttons are needed."""

    def __init__(self, value):
        self.value = value


class NoChange(PanelError):
    """The edit would leave the panel as it is."""


class NothingToUndo(PanelError):
    """No edit stands."""


class BadEdits(PanelError):
    """Not a list or tuple of edits, or too long a one."""


class BadEdit(PanelError):
    """The item at the index is not an edit."""

    def __init__(self, index):
        self.index = index


class Rejected(PanelError):
    """The edit at the index could not be done."""

    def __init__(self, index):
        self.index = index


class Locked(PanelError):
    """A desk that guesses takes no notes from outside."""


class BadText(PanelError):
    """Not a text of the wanted kind; index is the first wrong word, or None."""

    def __init__(self, index):
        self.index = index


class NoButton(LookupError):
    """The value is not a button of the panel."""

    def __init__(self, value):
        self.value = value


class NoVersion(LookupError):
    """The value is not a version of the desk."""

    def __init__(self, value):
        self.value = value
