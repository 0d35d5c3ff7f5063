"""Point 9: what is accepted as a certificate, whoever made it, and what is not."""

import itertools
import unittest

from pressrelease.reaching import certificate_holds, find_certificate, held_buttons
from tests.support import (
    ALONE, HUGE, NO_NUMBERS, P, Q, Checks, Draws, all_states, bare_panel, drawn_panels,
    full_panel, no_buttons, pressed, round_panel, sample_panels, sample_states, small_panels,
    subsets, ways_by_presses,
)

# 0 and 1 release each other, 2 leads to them, 3 comes from them, 4 releases 2 and 3.
R = ((1,), (0, 3), (0,), (), (2, 3))

# A certificate of each kind, with what it is for.
RIGHT = (
    (P, (1,), (0, 2), ("row", (2, 0))),
    (P, (1,), (0, 1), ("round", (0, 1, 0))),
    (P, (0, 1, 2), (0, 1), ("stuck", 2, (2,))),
    (bare_panel(10), (1, 2), (0,), ("stuck", 1, (1, 2))),
)


def told_walk(panel, start, goal, walk):
    """What point 9 says of a walk, for a tuple of buttons."""
    if not walk or walk[0] in start or not set(walk) <= set(goal):
        return False
    for at in range(len(walk) - 1):
        if walk[at + 1] not in panel[walk[at]]:
            return False
    return any(walk[at] == walk[-1] for at in range(len(walk) - 1))


def told_stuck(panel, start, goal, button, members):
    """What point 9 says of members, for a button and an ascending tuple of buttons."""
    if button not in start or button in goal or button not in members:
        return False
    if set(members) & set(goal):
        return False
    held = set(held_buttons(panel, goal))
    for other, released in enumerate(panel):
        if set(released) & set(members):
            barred = other not in goal and set(released) & held
            if other not in held and other not in members and not barred:
                return False
    return True


def walks(panel, most):
    """All tuples of buttons of at most so many, longer ones only if each releases the next."""
    found = [row for size in range(3) for row in itertools.product(range(len(panel)), repeat=size)]
    longer = [row for row in found if len(row) == 2 and row[1] in panel[row[0]]]
    for _ in range(most - 2):
        longer = [row + (other,) for row in longer for other in panel[row[-1]]]
        found += longer
    return found


class HoldsChecks(Checks):
    def holds(self, panel, start, goal, value):
        self.same(self.call(certificate_holds, panel, start, goal, value), True, (panel, value))

    def fails_to_hold(self, panel, start, goal, value):
        self.same(self.call(certificate_holds, panel, start, goal, value), False, (panel, value))


class AllOfThemTest(HoldsChecks, unittest.TestCase):
    def test_example(self):
        self.example("""
            >>> from pressrelease.reaching import certificate_holds
            >>> P = ((1,), (0,), (0, 1))
            >>> [certificate_holds(P, (1,), (0, 2), ('row', (2, 0))), certificate_holds(P, (1,), (0, 2), ('row', (0, 2)))]
            [True, False]
        """)

    def test_right_ones(self):
        for panel, start, goal, value in RIGHT:
            self.holds(panel, start, goal, value)

    def test_all_rows_on_small_panels(self):
        for panel in small_panels():
            many = len(panel)
            rows = [row for size in range(4) for row in itertools.product(range(many), repeat=size)]
            for start in all_states(many)[::2]:
                for row in rows:
                    after = start
                    for button in row:
                        after = pressed(panel, after, button)
                    for goal in all_states(many):
                        got = certificate_holds(panel, start, goal, ("row", row))
                        self.same(got, goal == after, (panel, start, goal, row))

    def test_all_walks_on_small_panels(self):
        for panel in small_panels()[::2] + drawn_panels(111, (4,), each=1):
            ways = {start: ways_by_presses(panel, start) for start in all_states(len(panel))}
            for walk in walks(panel, 5):
                for start in ways:
                    for goal in ways:
                        wanted = told_walk(panel, start, goal, walk)
                        self.assertFalse(wanted and goal in ways[start])
                        got = certificate_holds(panel, start, goal, ("round", walk))
                        self.same(got, wanted, (panel, start, goal, walk))

    def test_all_members_on_small_panels(self):
        for panel in small_panels() + drawn_panels(112, (4,), each=1):
            ways = {start: ways_by_presses(panel, start) for start in all_states(len(panel))}
            for start, goal in itertools.product(ways, repeat=2):
                for members in subsets(len(panel)):
                    for button in set(start) & set(members) or {0}:
                        wanted = told_stuck(panel, start, goal, button, members)
                        self.assertFalse(wanted and goal in ways[start])
                        got = certificate_holds(panel, start, goal, ("stuck", button, members))
                        self.same(got, wanted, (panel, start, goal, button, members))

    def test_drawn_members_on_larger_panels(self):
        draws = Draws(113)
        held = 0
        for panel in drawn_panels(114, (5, 6, 8, 10), each=2):
            many = len(panel)
            for _ in range(40):
                start, goal, members = (draws.state(many) for _ in range(3))
                members = tuple(button for button in members if button not in goal)
                for button in range(many):
                    wanted = told_stuck(panel, start, goal, button, members)
                    held += wanted
                    got = certificate_holds(panel, start, goal, ("stuck", button, members))
                    self.same(got, wanted, (panel, start, goal, button, members))
        self.assertGreater(held, 100)

    def test_what_find_certificate_returns(self):
        draws = Draws(115)
        for panel in sample_panels() + drawn_panels(116, (5, 10), each=1):
            many = len(panel)
            for start in sample_states(many):
                for goal in sample_states(many) + [draws.state(many)]:
                    self.holds(panel, start, goal, find_certificate(panel, start, goal))


class RowsTest(HoldsChecks, unittest.TestCase):
    def test_button_twice(self):
        self.holds(P, (1,), (0, 2), ("row", (0, 2, 0)))
        self.holds(P, (1,), (0, 2), ("row", (2, 2, 0, 0, 1, 0)))
        self.fails_to_hold(P, (1,), (0, 2), ("row", (2, 0, 1)))

    def test_empty_row(self):
        for panel in sample_panels():
            for state in sample_states(len(panel)):
                self.holds(panel, state, state, ("row", ()))
        self.fails_to_hold(P, (), (0,), ("row", ()))

    def test_sixty_and_sixty_one_presses(self):
        self.holds(ALONE, (), (0,), ("row", (0,) * 60))
        self.fails_to_hold(ALONE, (), (0,), ("row", (0,) * 61))
        self.holds(P, (1,), (0, 2), ("row", (2,) + (1,) * 58 + (0,)))
        self.fails_to_hold(P, (1,), (0, 2), ("row", (2,) + (1,) * 59 + (0,)))
        self.fails_to_hold(ALONE, (0,), (0,), ("row", (0,) * 1000))

    def test_items_that_are_no_buttons(self):
        for wrong in no_buttons(3):
            for at in range(3):
                row = [2, 0]
                row.insert(at, wrong)
                self.fails_to_hold(P, (1,), (0, 2), ("row", tuple(row)))

    def test_other_kinds_of_rows(self):
        for row in NO_NUMBERS + (0, 2, HUGE, [2, 0], "2 0", {"2": 0}, ((2, 0),), [(2, 0)]):
            self.fails_to_hold(P, (1,), (0, 2), ("row", row))
        self.fails_to_hold(P, (), (), ("row", []))
        self.fails_to_hold(P, (), (), ("row", None))


class WalksTest(HoldsChecks, unittest.TestCase):
    def test_other_walks(self):
        self.holds(R, (), (0, 1), ("round", (1, 0, 1)))
        self.holds(R, (), (0, 1), ("round", (1, 0, 1, 0, 1, 0)))
        self.holds(R, (0, 1), (0, 1, 2), ("round", (2, 0, 1, 0)))
        self.holds(R, (0, 1), (0, 1, 2), ("round", (2, 0, 1, 0, 1)))
        self.holds(R, (1, 2, 3), (0, 1, 2), ("round", (0, 1, 0)))

    def test_long_walks(self):
        for length in (59, 60, 61, 62, 63, 200, 900):
            walk = ((0, 1) * 500)[:length]
            self.holds(R, (), (0, 1), ("round", walk))
            self.holds(R, (0, 1), (0, 1, 2), ("round", (2,) + walk))
            self.fails_to_hold(R, (0,), (0, 1), ("round", walk))
        everything = tuple(range(10))
        self.holds(round_panel(10), (), everything, ("round", everything * 9 + (0,)))
        self.holds(round_panel(10), (), everything, ("round", everything + (0,)))
        self.fails_to_hold(round_panel(10), (), everything, ("round", everything))

    def test_first_button_latched_at_start(self):
        self.fails_to_hold(R, (0,), (0, 1), ("round", (0, 1, 0)))
        self.holds(R, (0,), (0, 1), ("round", (1, 0, 1)))
        self.fails_to_hold(R, (2,), (0, 1, 2), ("round", (2, 0, 1, 0)))

    def test_last_button_is_not_an_earlier_one(self):
        for walk in ((), (0,), (1,), (0, 1), (1, 0), (2, 0), (2, 0, 1)):
            self.fails_to_hold(R, (), (0, 1, 2), ("round", walk))
        self.fails_to_hold(R, (), (0, 1, 2, 3), ("round", (0, 1, 0, 1, 3)))

    def test_button_outside_of_the_goal(self):
        self.fails_to_hold(R, (), (0, 1), ("round", (2, 0, 1, 0)))
        self.fails_to_hold(R, (), (0,), ("round", (0, 1, 0)))
        self.fails_to_hold(R, (), (1,), ("round", (0, 1, 0)))
        self.fails_to_hold(R, (), (), ("round", (0, 1, 0)))

    def test_button_that_does_not_release_the_next(self):
        self.fails_to_hold(R, (), (0, 1, 2), ("round", (1, 2, 0, 1)))
        self.fails_to_hold(R, (), (0, 1, 2), ("round", (0, 1, 1)))
        self.fails_to_hold(R, (), (0, 1, 2), ("round", (0, 0)))
        self.fails_to_hold(R, (), (0, 1, 2), ("round", (0, 1, 0, 0)))
        self.fails_to_hold(R, (), (0, 1, 2), ("round", (0, 2, 0)))
        self.fails_to_hold(bare_panel(3), (), (0, 1, 2), ("round", (0, 1, 0)))

    def test_items_that_are_no_buttons(self):
        for wrong in no_buttons(5):
            for at in range(5):
                walk = [2, 0, 1, 0]
                walk.insert(at, wrong)
                self.fails_to_hold(R, (), (0, 1, 2), ("round", tuple(walk)))
                walk = [0, 1, 0, 1, 0]
                walk[at] = wrong
                self.fails_to_hold(R, (), (0, 1, 2), ("round", tuple(walk)))

    def test_other_kinds_of_walks(self):
        for walk in NO_NUMBERS + (0, 2, HUGE, [0, 1, 0], "0 1 0", {"0": 1}, ((0, 1, 0),)):
            self.fails_to_hold(P, (), (0, 1), ("round", walk))


class MembersTest(HoldsChecks, unittest.TestCase):
    def test_other_members(self):
        # Nobody releases anybody, so every set that has the button will do.
        panel = bare_panel(10)
        for size in range(4):
            for more in itertools.combinations((1, 2, 3, 4, 5, 6, 7, 9), size):
                members = tuple(sorted(more + (8,)))
                self.holds(panel, (0, 8), (0,), ("stuck", 8, members))

    def test_releaser_is_held_in_the_goal(self):
        self.holds(R, (0, 1, 3), (0, 1), ("stuck", 3, (3, 4)))
        self.holds(R, (0, 1, 2), (0, 1), ("stuck", 2, (2, 4)))
        # Only 1 is in this goal, so it is not held there.
        self.fails_to_hold(R, (1, 3), (1,), ("stuck", 3, (3, 4)))

    def test_releaser_is_no_member(self):
        self.fails_to_hold(R, (0, 1, 3), (0, 1), ("stuck", 3, (3,)))
        self.fails_to_hold(R, (0, 1, 3), (0, 1), ("stuck", 3, (2, 3)))
        self.holds(R, (0, 1, 3), (0, 1), ("stuck", 3, (2, 3, 4)))

    def test_releaser_outside_the_goal_releases_a_held_button(self):
        panel = ((1,), (0,), (0, 3), ())
        self.holds(panel, (0, 1, 3), (0, 1), ("stuck", 3, (3,)))
        self.holds(panel, (0, 1, 3), (0, 1), ("stuck", 3, (2, 3)))
        # Without the round it may be pressed.
        panel = ((1,), (), (0, 3), ())
        self.fails_to_hold(panel, (0, 1, 3), (0, 1), ("stuck", 3, (3,)))

    def test_releaser_within_the_goal(self):
        panel = ((), (0,), (0,))
        self.fails_to_hold(panel, (0,), (1,), ("stuck", 0, (0,)))
        self.fails_to_hold(panel, (0,), (1,), ("stuck", 0, (0, 2)))
        self.holds(panel, (0,), (), ("stuck", 0, (0, 1, 2)))

    def test_button_not_latched_at_start(self):
        self.fails_to_hold(bare_panel(3), (1,), (), ("stuck", 0, (0, 1)))
        self.holds(bare_panel(3), (1,), (), ("stuck", 1, (0, 1)))
        self.fails_to_hold(bare_panel(3), (), (), ("stuck", 0, (0,)))

    def test_button_of_the_goal(self):
        self.fails_to_hold(bare_panel(3), (0, 1), (0,), ("stuck", 0, (0, 1)))
        self.fails_to_hold(bare_panel(3), (0, 1), (0,), ("stuck", 0, (0,)))
        self.fails_to_hold(bare_panel(3), (0, 1), (0,), ("stuck", 0, (1,)))

    def test_members_lack_the_button(self):
        for members in ((), (0,), (2,), (0, 2)):
            self.fails_to_hold(bare_panel(3), (0, 1, 2), (), ("stuck", 1, members))

    def test_members_contain_one_of_the_goal(self):
        self.fails_to_hold(bare_panel(3), (1,), (0,), ("stuck", 1, (0, 1)))
        self.fails_to_hold(bare_panel(3), (1,), (2,), ("stuck", 1, (1, 2)))
        self.holds(bare_panel(3), (1,), (2,), ("stuck", 1, (0, 1)))

    def test_members_are_not_ascending(self):
        for members in ((1, 0), (0, 1, 1), (0, 0, 1), (2, 1), (0, 2, 1), (1, 1)):
            self.fails_to_hold(bare_panel(3), (1,), (), ("stuck", 1, members))

    def test_items_that_are_no_buttons(self):
        for wrong in no_buttons(3):
            self.fails_to_hold(bare_panel(3), (0, 1, 2), (), ("stuck", wrong, (0, 1, 2)))
            for members in ((wrong, 1), (1, wrong), (0, 1, wrong), (wrong, 1, 2), (0, wrong, 2)):
                self.fails_to_hold(bare_panel(3), (0, 1, 2), (), ("stuck", 1, members))

    def test_true_is_not_one(self):
        panel = bare_panel(2)
        for _ in range(2):
            self.holds(panel, (0, 1), (), ("stuck", 1, (0, 1)))
            self.fails_to_hold(panel, (0, 1), (), ("stuck", True, (0, 1)))
            self.fails_to_hold(panel, (0, 1), (), ("stuck", 1, (0, True)))
            self.fails_to_hold(panel, (0, 1), (), ("stuck", 1, (False, 1)))
            self.fails_to_hold(panel, (0, 1), (), ("stuck", False, (0, 1)))
            self.fails_to_hold(panel, (0, 1), (), ("stuck", False, (False, True)))
            self.holds(panel, (0, 1), (), ("stuck", 0, (0, 1)))

    def test_other_kinds_of_members(self):
        for members in NO_NUMBERS + (0, 1, HUGE, [1], [0, 1], "1", {"1": 1}, ((1,),), [(1,)]):
            self.fails_to_hold(bare_panel(3), (1,), (), ("stuck", 1, members))


class OtherValuesTest(HoldsChecks, unittest.TestCase):
    def test_other_kinds(self):
        for panel, start, goal, value in RIGHT:
            others = NO_NUMBERS + (
                0, 1, -1, HUGE, -HUGE, list(value), [value], (value,), {"row": value},
                {value[0]: value[1]}, value[0], value[1], repr(value), (value[0],), value[1:],
                (None,), (None, None), (None, None, None), ([], {}), ("row", "round", "stuck"),
            )
            for other in others:
                self.fails_to_hold(panel, start, goal, other)

    def test_unknown_first_words(self):
        for panel, start, goal, value in RIGHT:
            for word in ("", "rows", "Row", "ROUND", "row ", "stuck\n", "never", "r") + NO_NUMBERS:
                self.fails_to_hold(panel, start, goal, (word,) + value[1:])
            for word in {"row", "round", "stuck"} - {value[0]}:
                self.fails_to_hold(panel, start, goal, (word,) + value[1:])
                self.fails_to_hold(panel, start, goal, (word,) + value[-1:])

    def test_too_few_and_too_many_items(self):
        for panel, start, goal, value in RIGHT:
            for size in range(len(value)):
                self.fails_to_hold(panel, start, goal, value[:size])
            for more in (None, (), 0, value[-1], value):
                self.fails_to_hold(panel, start, goal, value + (more,))
                self.fails_to_hold(panel, start, goal, (more,) + value)
            self.fails_to_hold(panel, start, goal, value + value)
            self.fails_to_hold(panel, start, goal, value * 300)

    def test_each_part_replaced(self):
        replacements = [value for value in NO_NUMBERS if value != (0,)] + [-1, 10, HUGE, -HUGE]
        for panel, start, goal, value in RIGHT:
            for at in range(len(value)):
                for other in replacements:
                    changed = value[:at] + (other,) + value[at + 1:]
                    self.fails_to_hold(panel, start, goal, changed)

    def test_true_and_false_anywhere(self):
        for panel, start, goal, value in RIGHT:
            last = value[-1]
            for at, item in enumerate(last):
                if item < 2:
                    changed = last[:at] + (item == 1,) + last[at + 1:]
                    self.fails_to_hold(panel, start, goal, value[:-1] + (changed,))
            self.holds(panel, start, goal, value)

    def test_deep_values(self):
        deep = ()
        for _ in range(20):
            deep = (deep,)
        for panel, start, goal, value in RIGHT:
            self.fails_to_hold(panel, start, goal, deep)
            for at in range(len(value)):
                self.fails_to_hold(panel, start, goal, value[:at] + (deep,) + value[at + 1:])


class BothReasonsTest(HoldsChecks, unittest.TestCase):
    def test_round_and_stuck_together(self):
        panel = ((1,), (0,), ())
        self.holds(panel, (2,), (0, 1), ("round", (0, 1, 0)))
        self.holds(panel, (2,), (0, 1), ("stuck", 2, (2,)))

    def test_full_panel(self):
        everything = tuple(range(10))
        self.holds(full_panel(10), (), everything, ("round", (0, 9, 0)))
        self.holds(full_panel(10), (9,), everything[:9], ("round", (0, 8, 3, 0)))
        self.holds(full_panel(10), everything, everything[:9], ("stuck", 9, (9,)))

    def test_other_panels(self):
        self.holds(Q, (), (0, 1, 2, 3), ("round", (3, 0, 1, 2, 0)))
        self.fails_to_hold(Q, (), (0, 1, 3), ("round", (3, 0, 1, 0)))
