"""What a row of presses does, whatever was latched before.

An effect is a tuple with one word for each button: "on", "off" or "same".
"""

from pressrelease.bounds import SMALL_BUTTONS
from pressrelease.errors import TooLarge
from pressrelease.searches import shortest_rows

WORDS = ("on", "off", "same")


def no_effect(panel):
    """Return the effect of the empty row."""
    return ("same",) * len(panel)


def press_effect(panel, button):
    """Return the effect of a single press."""
    words = list(no_effect(panel))
    words[button] = "on"
    for other in panel[button]:
        words[other] = "off"
    return tuple(words)


def joined_effect(first, second):
    """Return the effect of two rows, one after the other, from the effects of both."""
    return tuple([early if late == "same" else late for early, late in zip(first, second)])


def effect_with_press(panel, effect, button):
    """Return the effect of a row with this effect and then a press of the button."""
    return joined_effect(effect, press_effect(panel, button))


def effect_behind_press(panel, effect, button):
    """Return the effect of a press of the button and then a row with this effect."""
    return joined_effect(press_effect(panel, button), effect)


def effect_of(panel, row):
    """Return the effect of the row."""
    effect = no_effect(panel)
    for button in row:
        effect = effect_with_press(panel, effect, button)
    return effect


def plain_row(row):
    """Return the row with only the last press of each button."""
    last = {button: index for index, button in enumerate(row)}
    return tuple([button for index, button in enumerate(row) if last[button] == index])


def find_difference(panel, row, other):
    """Return the smallest state from which the rows lead to different ones, or None."""
    pairs = list(zip(effect_of(panel, row), effect_of(panel, other)))
    differing = [button for button, (one, two) in enumerate(pairs) if one != two]
    if not differing:
        return None
    # "on" differs from both other words where the button is not latched, but
    # "off" and "same" differ only where it is.
    if any(["on" in pairs[button] for button in differing]):
        return ()
    return tuple(range(differing[0] + 1))


def is_part(effect, wanted):
    """Return whether each word of the effect is "same" or the word that is wanted there."""
    return all([word in ("same", other) for word, other in zip(effect, wanted)])


def shortest_row(panel, row):
    """Return the shortest row with the effect of the row, of several the smallest one."""
    wanted = effect_of(panel, row)
    # Rows grow at their front. What a row does to a button, no earlier press
    # changes, so only rows whose effect is part of the wanted one are kept.
    rows = {no_effect(panel): ()}
    level = [no_effect(panel)]
    while wanted not in rows:
        longer = []
        # The level is in the order of its rows; going through the buttons
        # first, the rows that are found are in the order of tuples, too.
        for button in range(len(panel)):
            for effect in level:
                more = effect_behind_press(panel, effect, button)
                if more not in rows and is_part(more, wanted):
                    rows[more] = (button, *rows[effect])
                    longer.append(more)
        level = longer
    return rows[wanted]


def is_tuple_of_words(value, many):
    """Return whether any value is a tuple of that many of the three words."""
    if not isinstance(value, tuple) or len(value) != many:
        return False
    return all([word in WORDS for word in value])


def useful_press(panel, effect, wanted):
    """Return a button whose press before a row of this effect adds to it what is wanted.

    None if there is no such button.
    """
    for button in range(len(panel)):
        more = effect_behind_press(panel, effect, button)
        if more != effect and is_part(more, wanted):
            return button
    return None


def row_for(panel, value):
    """Return some row with this effect and no button twice, or None if no row has it."""
    if not is_tuple_of_words(value, len(panel)):
        return None
    # The row is built from its end. A press that is useful stays possible
    # whatever is done behind it, so it does not matter which one is taken.
    row = ()
    effect = no_effect(panel)
    while effect != value:
        button = useful_press(panel, effect, value)
        if button is None:
            return None
        row = (button, *row)
        effect = effect_behind_press(panel, effect, button)
    return row


def count_effects(panel):
    """Return the number of different effects of rows."""
    return len(all_effects(panel))


def all_effects(panel):
    """Return the ascending tuple of all effects of rows."""
    if len(panel) > SMALL_BUTTONS:
        raise TooLarge(SMALL_BUTTONS)
    return tuple(sorted(list(shortest_rows(panel, no_effect(panel), effect_with_press))))
