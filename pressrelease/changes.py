"""Panels made from other panels."""

from pressrelease.bounds import MAX_BUTTONS
from pressrelease.errors import LastButton, TooLarge


def with_list(panel, button, released):
    """Return the panel in which the button has this list in place of its own."""
    return tuple([released if index == button else row for index, row in enumerate(panel)])


def linked(panel, one, other):
    """Return the panel in which one releases other."""
    if other in panel[one]:
        return panel
    return with_list(panel, one, tuple(sorted([*panel[one], other])))


def unlinked(panel, one, other):
    """Return the panel in which one does not release other."""
    if other not in panel[one]:
        return panel
    return with_list(panel, one, tuple([button for button in panel[one] if button != other]))


def renamed(panel, names):
    """Return the panel in which button b is called names[b]."""
    lists = list(panel)
    for button, released in enumerate(panel):
        lists[names[button]] = tuple(sorted([names[other] for other in released]))
    return tuple(lists)


def list_without(released, button):
    """Return the list without the button, with the names that greater buttons get then."""
    return tuple([other if other < button else other - 1 for other in released if other != button])


def without_button(panel, button):
    """Return the panel without the button; greater buttons are called one less."""
    if len(panel) == 1:
        raise LastButton()
    return tuple([list_without(row, button) for index, row in enumerate(panel) if index != button])


def beside(*panels):
    """Return the panel that contains the panels side by side."""
    if sum([len(panel) for panel in panels]) > MAX_BUTTONS:
        raise TooLarge(MAX_BUTTONS)
    lists = []
    for panel in panels:
        first = len(lists)
        lists.extend([tuple([first + other for other in released]) for released in panel])
    return tuple(lists)
