"""Rows that bring every unknown state to one known state."""

from pressrelease.effects import effect_of, joined_effect, row_for
from pressrelease.reaching import states_between


def state_effect(panel, state):
    """Return the effect that leads to the state from every state."""
    return tuple(["on" if button in state else "off" for button in range(len(panel))])


def is_reset(panel, row):
    """Return whether the row leads to one and the same state from every state."""
    return "same" not in effect_of(panel, row)


def shortest_reset(panel):
    """Return the shortest reset, of several the smallest one."""
    # Whether a row is a reset does not depend on the order of its presses, and
    # none is there twice in a shortest one: ascending rows are enough.
    rows = states_between((), tuple(range(len(panel))))
    resets = [row for row in rows if is_reset(panel, row)]
    return min(resets, key=lambda row: (len(row), row))


def reset_to(panel, goal):
    """Return some reset, no button twice, after which the state is the goal, or None."""
    return row_for(panel, state_effect(panel, goal))


def state_after(panel, state, effect):
    """Return the state to which rows with this effect lead from the state."""
    words = joined_effect(state_effect(panel, state), effect)
    return tuple([button for button, word in enumerate(words) if word == "on"])


def states_after(panel, states, row):
    """Return the ascending tuple of the states to which the row leads from the states."""
    effect = effect_of(panel, row)
    return tuple(sorted({state_after(panel, state, effect) for state in states}))
