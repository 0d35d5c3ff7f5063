"""What the tests of desks need: a desk as section 6 tells it, and checks against that."""

from pressrelease import errors
from pressrelease.desks import GuessDesk
from tests.support import NO_NUMBERS, Checks, pressed, shown

EDITS = {"press": 1, "link": 2, "unlink": 2}

# Values that are no batch, whatever is in them.
NO_BATCHES = tuple(value for value in NO_NUMBERS if not isinstance(value, (list, tuple))) + (
    0, 1, 20, "press 0", {"press": 0}, (("press", 0),) * 21, [("press", 0)] * 21,
    [("press", 0)] * 60, [None] * 21, ("press",) * 1000,
)

# Values that are no edits, of which each would be one with a little change.
NO_EDITS = (
    None, True, 0, 1, "press", "press 0", "undo", (), [], {}, {"press": 0},
    ["press", 0], ["link", 0, 1], ("press",), ("press", 0, 1), ("press", 0, 0), ("link",),
    ("link", 0), ("link", 0, 1, 2), ("unlink",), ("unlink", 0), ("unlink", 0, 1, 1),
    ("undo",), ("undo", 0), ("note", 0), ("state",), ("attempt", ()), ("Press", 0), ("press ", 0),
    ("", 0), (None, 0), (0, 0), (True, 0), ((), 0), ([], 0), ({}, 0), (("press",), 0),
    (["press"], 0), (("press", 0),), ("press", 0, None), (0, "press"), ("links", 0, 1),
)


def is_told_button(value, many):
    """True is shown otherwise than 1."""
    return shown(value) in [shown(button) for button in range(many)]


def told_held(panel, state):
    """The held buttons: those that lead to a button which leads to itself."""
    onward = {button: {c for c in panel[button] if c in state} for button in state}
    for _ in state:
        for button in state:
            onward[button] = onward[button].union(*(onward[c] for c in onward[button]))
    ring = {button for button in state if button in onward[button]}
    return tuple(button for button in state if button in ring or onward[button] & ring)


def told_panel(panel, edit):
    """The panel after an edit that can be done."""
    name, *values = edit
    links = {(one, other) for one, row in enumerate(panel) for other in row}
    if name == "link":
        links.add(tuple(values))
    if name == "unlink":
        links.discard(tuple(values))
    return tuple(
        tuple(other for other in range(len(panel)) if (one, other) in links)
        for one in range(len(panel))
    )


def told_known(panel, known, edit):
    """What is known after the edit, on the panel before it."""
    if edit[0] != "press":
        return known
    words = list(known)
    for button in range(len(panel)):
        if button == edit[1]:
            words[button] = "on"
        elif button in panel[edit[1]]:
            words[button] = "off"
    return tuple(words)


def told_versions(panel, state, edits):
    """Panel, state and what is known, after each number of edits."""
    known = ("same",) * len(panel)
    versions = [(panel, state, known)]
    for edit in edits:
        known = told_known(panel, known, edit)
        if edit[0] == "press":
            state = pressed(panel, state, edit[1])
        panel = told_panel(panel, edit)
        versions.append((panel, state, known))
    return versions


def told_error(panel, stand, edit):
    """The error that is listed first, or None, for an edit with any values."""
    name, *values = edit
    if stand >= 60:
        return errors.TooManyEdits()
    for value in values:
        if not is_told_button(value, len(panel)):
            return errors.NoButton(value)
    if name == "press":
        return None
    if values[0] == values[1]:
        return errors.SameButton(values[0])
    if (values[1] in panel[values[0]]) == (name == "link"):
        return errors.NoChange()
    return None


def do(desk, edit):
    name, *values = edit
    return getattr(desk, name)(*values)


def picture(desk):
    """All that a desk tells of itself."""
    versions = [desk.state(version=version) for version in range(len(desk) + 1)]
    return shown((
        desk.panel, desk.latched, desk.held, desk.state(), versions, desk.edits(), len(desk),
        str(desk), getattr(desk, "known", None), desk.MOST_EDITS,
    ))


def drawn_edit(draws, panel):
    """An edit that can be done, if one was found soon."""
    many = len(panel)
    for _ in range(20):
        name = ("press", "link", "unlink")[draws.below(3)]
        edit = (name, *draws.row(many, EDITS[name]))
        if told_error(panel, 0, edit) is None:
            return edit
    return ("press", draws.below(many))


def drawn_edits(draws, panel, many):
    """So many edits that can be done one after another."""
    edits = []
    for _ in range(many):
        edits.append(drawn_edit(draws, panel))
        panel = told_panel(panel, edits[-1])
    return edits


class DeskChecks(Checks):
    """Mixed into a TestCase."""

    def shows(self, desk, panel, state, edits):
        """The desk is as it must be after these edits, and as it was after fewer of them."""
        versions = told_versions(panel, state, edits)
        panel, state, known = versions[-1]
        self.same(desk.panel, panel, edits)
        self.same(desk.latched, state, edits)
        self.same(desk.held, told_held(panel, state), edits)
        self.same(desk.edits(), tuple(edits))
        self.same(len(desk), len(edits))
        self.same(str(desk), f"{len(panel)} buttons, {len(state)} latched, {len(edits)} edits")
        self.same(desk.state(), (panel, state))
        self.same(
            [desk.state(version=version) for version in range(len(edits) + 1)],
            [told[:2] for told in versions],
        )
        self.no_version(desk, len(edits) + 1)
        self.same(desk.MOST_EDITS, 60)
        if isinstance(desk, GuessDesk):
            self.same(desk.known, known, edits)

    def no_version(self, desk, value):
        self.fails(errors.NoVersion(value), lambda version: desk.state(version=version), value)
        self.fails(
            errors.NoVersion(value), lambda version: desk.way_to((), version=version), value
        )

    def refused(self, desk, wanted, function, *values):
        """The call raises this error and leaves all of the desk as it is."""
        before = picture(desk)
        self.fails(wanted, function, *values)
        self.same(picture(desk), before, values)
        self.no_version(desk, len(desk) + 1)
