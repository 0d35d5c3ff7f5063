"""Desks, on which buttons are pressed and lists are changed, and guesses.

A desk changes only by tuples that are put in the place of other ones, so that
it can be brought back by assignments alone.
"""

from pressrelease.bounds import BATCH
from pressrelease.changes import linked, unlinked
from pressrelease.effects import effect_with_press, no_effect
from pressrelease.errors import (
    BadEdit,
    BadEdits,
    BadPanel,
    BadState,
    Busy,
    Locked,
    NoButton,
    NoChange,
    NothingToUndo,
    NoVersion,
    Rejected,
    SameButton,
    TooManyEdits,
)
from pressrelease.panels import is_button, is_button_tuple, panel_error, press_button
from pressrelease.reaching import held_buttons, shortest_way
from pressrelease.texts import parse_panel

# How many values each edit takes.
VALUES = {"press": 1, "link": 2, "unlink": 2}


def check_panel(value):
    """Raise BadPanel if any value is not a panel."""
    error = panel_error(value)
    if error is not None:
        raise BadPanel(error)


def check_state(panel, value):
    """Raise BadState if any value is not a state of the panel."""
    if not is_button_tuple(value, len(panel)):
        raise BadState(value)


def check_button(panel, value):
    """Raise NoButton if any value is not a button of the panel."""
    if not is_button(value, len(panel)):
        raise NoButton(value)


def is_version(value, latest):
    """Return whether any value is a number from 0 to the latest version."""
    # Versions are numbered from 0, as buttons are.
    return is_button(value, latest + 1)


def is_edit(value):
    """Return whether any value is an edit, whatever it is done to."""
    if not isinstance(value, tuple) or len(value) == 0 or not isinstance(value[0], str):
        return False
    return value[0] in VALUES and len(value) == 1 + VALUES[value[0]]


def copied_batch(value):
    """Return the edits of any value, which a watch cannot change any more."""
    if not isinstance(value, (list, tuple)) or len(value) > BATCH:
        raise BadEdits()
    for index, item in enumerate(value):
        if not is_edit(item):
            raise BadEdit(index)
    return tuple(value)


def known_after(panel, past):
    """Return what somebody knows who has seen the edits but not the first state."""
    known = no_effect(panel)
    for edit, seen, latched in past:
        if edit[0] == "press":
            known = effect_with_press(seen, known, edit[1])
    return known


class Desk:
    """A panel with a state, both of which can be edited, with undo."""

    # Written out, as a value of a class must be; it is MAX_EDITS of bounds.
    MOST_EDITS = 60

    def __init__(self, panel, state):
        check_panel(panel)
        check_state(panel, state)
        # For each edit that stands: the edit, and the panel and state before it.
        self.past = ()
        self.watched = False
        self.show(panel, state)

    def show(self, panel, latched):
        """Make this the present panel and state."""
        self.panel = panel
        self.latched = latched
        self.held = held_buttons(panel, latched)

    def check_free(self):
        """Raise Busy if the desk must not be changed now."""
        if self.watched:
            raise Busy()

    def check_room(self):
        """Raise an error if no edit can be added now, whatever it is."""
        self.check_free()
        if len(self.past) >= self.MOST_EDITS:
            raise TooManyEdits()

    def check_link(self, one, other):
        """Raise an error if no link from one to other can be added or removed."""
        self.check_room()
        check_button(self.panel, one)
        check_button(self.panel, other)
        if one == other:
            raise SameButton(one)

    def add_edit(self, edit, panel, latched):
        """Let the edit stand, which leads to this panel and state; return the version."""
        self.past = (*self.past, (edit, self.panel, self.latched))
        self.show(panel, latched)
        return len(self.past)

    def change_panel(self, edit, panel):
        """Let the edit stand, which leads to this panel; return the version."""
        if panel == self.panel:
            raise NoChange()
        return self.add_edit(edit, panel, self.latched)

    def press(self, button):
        """Press the button and return the version."""
        self.check_room()
        check_button(self.panel, button)
        latched = press_button(self.panel, self.latched, button)
        return self.add_edit(("press", button), self.panel, latched)

    def link(self, one, other):
        """Let one release other and return the version."""
        self.check_link(one, other)
        return self.change_panel(("link", one, other), linked(self.panel, one, other))

    def unlink(self, one, other):
        """Let one not release other and return the version."""
        self.check_link(one, other)
        return self.change_panel(("unlink", one, other), unlinked(self.panel, one, other))

    def undo(self):
        """Take back the last edit that stands and return the version."""
        self.check_free()
        if not self.past:
            raise NothingToUndo()
        edit, panel, latched = self.past[-1]
        self.past = self.past[:-1]
        self.show(panel, latched)
        return len(self.past)

    def attempt(self, edits, *, watch=None):
        """Do all the edits, or those up to the one that the watch accepts, or none.

        Return how many were done.
        """
        self.check_free()
        batch = copied_batch(edits)
        past, panel, latched, held = self.past, self.panel, self.latched, self.held
        done = None
        try:
            done = self.do_batch(batch, watch)
        finally:
            # Not in a handler, since a watch may raise whatever it likes.
            if done is None:
                self.past, self.panel = past, panel
                self.latched, self.held = latched, held
        return done

    def do_batch(self, batch, watch):
        """Do the edits until the watch accepts; return how many were done."""
        for index, edit in enumerate(batch):
            self.do_edit(index, edit)
            if watch is not None and self.accepted_by(watch):
                return index + 1
        return len(batch)

    def do_edit(self, index, edit):
        """Do the edit, which has this index in its batch."""
        try:
            if edit[0] == "press":
                self.press(edit[1])
            elif edit[0] == "link":
                self.link(edit[1], edit[2])
            else:
                self.unlink(edit[1], edit[2])
        except (TooManyEdits, NoButton, SameButton, NoChange) as reason:
            raise Rejected(index) from reason

    def accepted_by(self, watch):
        """Return whether the watch accepts the desk as it is."""
        self.watched = True
        try:
            return bool(watch(self))
        finally:
            self.watched = False

    def state(self, *, version=None):
        """Return the panel and the latched buttons, now or at a version."""
        if version is None:
            return (self.panel, self.latched)
        if not is_version(version, len(self.past)):
            raise NoVersion(version)
        if version == len(self.past):
            return (self.panel, self.latched)
        edit, panel, latched = self.past[version]
        return (panel, latched)

    def way_to(self, goal, *, version=None):
        """Return the shortest row to the goal, from now or from a version, or None."""
        panel, latched = self.state(version=version)
        check_state(panel, goal)
        return shortest_way(panel, latched, goal)

    def walk(self, goal):
        """Yield each press of the way to the goal with the state after it."""
        way = self.way_to(goal)
        if way is None:
            return
        panel, latched = self.state()
        for button in way:
            latched = press_button(panel, latched, button)
            yield (button, latched)

    def edits(self):
        """Return the tuple of the edits that stand."""
        return tuple([edit for edit, panel, latched in self.past])

    @classmethod
    def read(cls, text):
        """Return a new desk without latched buttons from the text of a panel."""
        return cls(parse_panel(text), ())

    def __len__(self):
        return len(self.past)

    def __str__(self):
        return f"{len(self.panel)} buttons, {len(self.latched)} latched, {len(self.past)} edits"

    def __eq__(self, other):
        return isinstance(other, Desk) and self.panel == other.panel and self.latched == other.latched


class Guess:
    """What is known of a panel whose first state nobody has seen."""

    def __init__(self, panel):
        check_panel(panel)
        self.panel = panel
        self.known = no_effect(panel)

    def note(self, button):
        """Add a press and return whether the whole state is known now."""
        check_button(self.panel, button)
        self.known = effect_with_press(self.panel, self.known, button)
        return "same" not in self.known


class GuessDesk(Desk, Guess):
    """A desk that also tells what is known without its first state."""

    def __init__(self, panel, state):
        Desk.__init__(self, panel, state)
        Guess.__init__(self, panel)

    def show(self, panel, latched):
        """Make this the present panel and state, and tell what is known with it."""
        super().show(panel, latched)
        self.known = known_after(panel, self.past)

    def attempt(self, edits, *, watch=None):
        """Do what a desk does, and know no more if nothing was done."""
        known = self.known
        done = None
        try:
            done = super().attempt(edits, watch=watch)
        finally:
            if done is None:
                self.known = known
        return done

    def note(self, button):
        """Raise Locked: the presses of a desk are those that are done on it."""
        raise Locked()
