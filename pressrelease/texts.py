"""Panels and rows as texts, and back again.

A number is written in decimal, without leading zeros and without a sign.
"""

from pressrelease.bounds import MAX_BUTTONS, MAX_ROW
from pressrelease.errors import BadText
from pressrelease.panels import is_button_tuple


def list_text(button, released):
    """Return the word for a button and its list."""
    return f"{button}>" + ",".join([str(other) for other in released])


def panel_text(panel):
    """Return the text of the panel."""
    return " ".join([list_text(button, released) for button, released in enumerate(panel)])


def row_text(row):
    """Return the text of the row, or of the state."""
    if not row:
        return "none"
    return " ".join([str(button) for button in row])


def words_of(value):
    """Return the words of the text, divided at each single space."""
    if not isinstance(value, str):
        raise BadText(None)
    return value.split(" ")


def buttons_by_text(many):
    """Return a dict of that many buttons by the only text that each of them has."""
    return {str(button): button for button in range(many)}


def parse_list(word, button, buttons):
    """Return the list of the button whose text the word is, or None if it is no such text."""
    name, sign, rest = word.partition(">")
    if sign == "" or name != str(button):
        return None
    if rest == "":
        return ()
    released = tuple([buttons.get(part) for part in rest.split(",")])
    # What is no button is None here, which the test does not let pass.
    if not is_button_tuple(released, len(buttons)) or button in released:
        return None
    return released


def parse_panel(value):
    """Return the panel whose text any value is, or raise BadText."""
    words = words_of(value)
    buttons = buttons_by_text(len(words))
    lists = []
    for index, word in enumerate(words):
        released = parse_list(word, index, buttons)
        if released is None or index == MAX_BUTTONS:
            raise BadText(index)
        lists.append(released)
    return tuple(lists)


def parse_row(panel, value):
    """Return the row of the panel whose text any value is, or raise BadText."""
    words = words_of(value)
    if value == "none":
        return ()
    buttons = buttons_by_text(len(panel))
    row = []
    for index, word in enumerate(words):
        if word not in buttons or index == MAX_ROW:
            raise BadText(index)
        row.append(buttons[word])
    return tuple(row)
