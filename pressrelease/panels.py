"""Panels, and what presses do to the latched buttons."""

from pressrelease.bounds import MAX_BUTTONS, MAX_ROW
from pressrelease.errors import BadRow


def is_button(value, many):
    """Return whether any value is a button of a panel with that many buttons."""
    # Python counts True and False among the integers; they are no buttons.
    if isinstance(value, bool) or not isinstance(value, int):
        return False
    return 0 <= value < many


def is_button_tuple(value, many):
    """Return whether any value is an ascending tuple of buttons, out of that many."""
    if not isinstance(value, tuple):
        return False
    before = -1
    for item in value:
        if not is_button(item, many) or item <= before:
            return False
        before = item
    return True


def is_panel(value):
    """Return whether any value is a panel."""
    return panel_error(value) is None


def panel_error(value):
    """Return None for a panel, otherwise the first thing that is wrong with the value."""
    if not isinstance(value, tuple) or not 1 <= len(value) <= MAX_BUTTONS:
        return (None, "panel")
    for index, item in enumerate(value):
        if not is_button_tuple(item, len(value)):
            return (index, "list")
        if index in item:
            return (index, "itself")
    return None


def releasers_of(panel, button):
    """Return the ascending tuple of the buttons that release the button."""
    return tuple([other for other, released in enumerate(panel) if button in released])


def press_button(panel, state, button):
    """Return the state after the button was pressed."""
    released = panel[button]
    kept = [other for other in state if other != button and other not in released]
    return tuple(sorted([*kept, button]))


def check_row(panel, value):
    """Raise BadRow if any value is not a row of presses of the panel."""
    if not isinstance(value, tuple) or len(value) > MAX_ROW:
        raise BadRow(None)
    for index, item in enumerate(value):
        if not is_button(item, len(panel)):
            raise BadRow(index)


def run(panel, state, value):
    """Return the state after the row of presses, which may be any value."""
    check_row(panel, value)
    now = state
    for button in value:
        now = press_button(panel, now, button)
    return now
