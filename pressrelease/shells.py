"""A desk that is used by lines of text."""

from pressrelease.errors import (
    BadText,
    Busy,
    NoButton,
    NoChange,
    NothingToUndo,
    SameButton,
    TooManyEdits,
)
from pressrelease.panels import is_button_tuple
from pressrelease.texts import panel_text, parse_row, row_text

UNKNOWN = "unknown command"
MAX_DIGITS = 10
# How many numbers stand behind the name of each command that changes the desk.
NUMBERS = {"press": 1, "link": 2, "unlink": 2, "undo": 0}


def is_number_text(word):
    """Return whether the word is the text of a number that is not too long."""
    if len(word) > MAX_DIGITS or not word.isascii() or not word.isdigit():
        return False
    return word == str(int(word))


def is_change(words):
    """Return whether the words are a command that changes the desk."""
    name = words[0]
    if name not in NUMBERS or len(words) != 1 + NUMBERS[name]:
        return False
    return all([is_number_text(word) for word in words[1:]])


def change(desk, name, numbers):
    """Call the method of the desk that has this name and return the version."""
    if name == "press":
        return desk.press(numbers[0])
    if name == "link":
        return desk.link(numbers[0], numbers[1])
    if name == "unlink":
        return desk.unlink(numbers[0], numbers[1])
    return desk.undo()


def change_answer(desk, words):
    """Change the desk and return the answer."""
    numbers = [int(word) for word in words[1:]]
    try:
        version = change(desk, words[0], numbers)
    except Busy:
        return "error Busy"
    except TooManyEdits:
        return "error TooManyEdits"
    except NoButton:
        return "error NoButton"
    except SameButton:
        return "error SameButton"
    except NoChange:
        return "error NoChange"
    except NothingToUndo:
        return "error NothingToUndo"
    return f"ok {version}"


def way_answer(desk, text):
    """Return the text of the way to the state that has this text."""
    try:
        goal = parse_row(desk.panel, text)
    except BadText:
        return UNKNOWN
    if not is_button_tuple(goal, len(desk.panel)):
        return UNKNOWN
    way = desk.way_to(goal)
    return "never" if way is None else row_text(way)


def query_answer(desk, line):
    """Return the answer to a line that does not change the desk."""
    if line == "latched":
        return row_text(desk.latched)
    if line == "held":
        return row_text(desk.held)
    if line == "panel":
        return panel_text(desk.panel)
    if line.startswith("way "):
        return way_answer(desk, line.removeprefix("way "))
    return UNKNOWN


class Shell:
    """The commands that stand for the methods of a desk."""

    def __init__(self, desk):
        self.desk = desk

    def execute(self, line):
        """Do what the line asks for and return the answer, whatever value the line is."""
        if not isinstance(line, str):
            return UNKNOWN
        words = line.split(" ")
        if is_change(words):
            return change_answer(self.desk, words)
        return query_answer(self.desk, line)
