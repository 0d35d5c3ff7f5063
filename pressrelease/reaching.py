"""Which states can be reached from which, with certificates for both answers."""

from pressrelease.effects import row_for
from pressrelease.errors import BadRow
from pressrelease.panels import is_button, is_button_tuple, press_button, run
from pressrelease.searches import shortest_rows


def releases_any(panel, button, others):
    """Return whether the button releases at least one of the others."""
    return any([other in others for other in panel[button]])


def held_buttons(panel, state):
    """Return the ascending tuple of the buttons that are held in the state."""
    held = state
    # A button that releases none of the others is on no way to a round; the
    # others may then turn out to be such buttons, too.
    left = [button for button in held if releases_any(panel, button, held)]
    while len(left) < len(held):
        held = tuple(left)
        left = [button for button in held if releases_any(panel, button, held)]
    return held


def held_walk(panel, held, first):
    """Return a walk from the first through held buttons to one that it has met before."""
    walk = [first]
    while walk[-1] not in walk[:-1]:
        onward = [button for button in panel[walk[-1]] if button in held]
        walk.append(onward[0])
    return tuple(walk)


def find_round(panel, state):
    """Return some round within the state, its smallest button first, or None."""
    held = held_buttons(panel, state)
    if not held:
        return None
    walk = held_walk(panel, held, held[0])
    ring = walk[walk.index(walk[-1]):-1]
    least = ring.index(min(ring))
    return ring[least:] + ring[:least]


def gathered_buttons(panel, goal):
    """Return the ascending tuple of the buttons that can be unlatched on the way to the goal."""
    held = held_buttons(panel, goal)
    outside = [button for button in range(len(panel)) if button not in goal]
    gathered = []
    pressed = [button for button in goal if button not in held]
    while pressed:
        released = [button for button in outside if button not in gathered
                    and any([button in panel[other] for other in pressed])]
        gathered = gathered + released
        pressed = [button for button in released if not releases_any(panel, button, held)]
    return tuple(sorted(gathered))


def can_reach(panel, start, goal):
    """Return whether some row leads from start to goal."""
    held = held_buttons(panel, goal)
    gathered = gathered_buttons(panel, goal)
    return (all([button in start for button in held])
            and all([button in goal or button in gathered for button in start]))


def row_towards(panel, goal):
    """Return a row, no button twice, that leads to the goal from wherever one can reach it."""
    held = held_buttons(panel, goal)
    gathered = gathered_buttons(panel, goal)
    words = ["off" if button in gathered else "same" for button in range(len(panel))]
    for button in goal:
        if button not in held:
            words[button] = "on"
    return row_for(panel, tuple(words))


def find_certificate(panel, start, goal):
    """Return a certificate that the goal can be reached from start, or that it cannot."""
    held = held_buttons(panel, goal)
    for button in held:
        if button not in start:
            return ("round", held_walk(panel, held, button))
    gathered = gathered_buttons(panel, goal)
    members = tuple([button for button in range(len(panel))
                     if button not in goal and button not in gathered])
    for button in members:
        if button in start:
            return ("stuck", button, members)
    return ("row", row_towards(panel, goal))


def row_holds(panel, start, goal, row):
    """Return whether any value is a row that leads from start to goal."""
    try:
        return run(panel, start, row) == goal
    except BadRow:
        return False


def walk_holds(panel, start, goal, walk):
    """Return whether any value is the walk of a certificate "round"."""
    if not isinstance(walk, tuple) or not walk:
        return False
    if not all([is_button(item, len(panel)) and item in goal for item in walk]):
        return False
    if walk[0] in start or walk[-1] not in walk[:-1]:
        return False
    return all([after in panel[before] for before, after in zip(walk[:-1], walk[1:])])


def stuck_holds(panel, start, goal, button, members):
    """Return whether any two values are the button and the members of a certificate "stuck"."""
    if not is_button(button, len(panel)) or not is_button_tuple(members, len(panel)):
        return False
    if button not in start or button not in members:
        return False
    if any([member in goal for member in members]):
        return False
    held = held_buttons(panel, goal)
    for other in range(len(panel)):
        if other in held or other in members or not releases_any(panel, other, members):
            continue
        if other in goal or not releases_any(panel, other, held):
            return False
    return True


def certificate_holds(panel, start, goal, value):
    """Return whether any value is a certificate for the panel, start and goal."""
    if not isinstance(value, tuple) or len(value) not in (2, 3):
        return False
    kind = value[0]
    if len(value) == 3:
        return kind == "stuck" and stuck_holds(panel, start, goal, value[1], value[2])
    if kind == "row":
        return row_holds(panel, start, goal, value[1])
    return kind == "round" and walk_holds(panel, start, goal, value[1])


def shortest_way(panel, start, goal):
    """Return the shortest row from start to goal, of several the smallest one, or None."""
    return shortest_rows(panel, start, press_button).get(goal)


def reachable_states(panel, start):
    """Return the ascending tuple of all states that can be reached from start."""
    return tuple(sorted(list(shortest_rows(panel, start, press_button))))


def states_between(least, most):
    """Return the ascending tuple of the states that contain least and are contained in most."""
    states = [least]
    for button in most:
        if button not in least:
            states = states + [tuple(sorted([*state, button])) for state in states]
    return tuple(sorted(states))


def sources_of(panel, goal):
    """Return the ascending tuple of all states from which the goal can be reached."""
    return states_between(held_buttons(panel, goal), goal + gathered_buttons(panel, goal))
