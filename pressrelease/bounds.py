"""The limits that the whole package keeps to."""

MAX_BUTTONS = 10
MAX_ROW = 60
SMALL_BUTTONS = 7
MAX_EDITS = 60
BATCH = 20
