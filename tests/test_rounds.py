"""Point 8: rounds within a state, and the buttons that are held in it."""

import itertools
import unittest

from pressrelease.reaching import find_round, held_buttons
from tests.support import (
    ALONE, P, Checks, Draws, all_states, bare_panel, down_panel, drawn_panels, full_panel,
    round_panel, sample_panels, sample_states, small_panels,
)


def is_round(panel, state, ring):
    """What point 8 says of a round."""
    if len(ring) < 2 or len(set(ring)) < len(ring) or not set(ring) <= set(state):
        return False
    return all(after in panel[before] for before, after in zip(ring, ring[1:] + ring[:1]))


def listed_rounds(panel, state):
    return [
        ring
        for size in range(2, len(state) + 1)
        for ring in itertools.permutations(state, size)
        if is_round(panel, state, ring)
    ]


def onward(panel, state, button):
    """The buttons to which releases within the state lead from the button in one or more steps."""
    met = set()
    waiting = [button]
    while waiting:
        for other in panel[waiting.pop()]:
            if other in state and other not in met:
                met.add(other)
                waiting.append(other)
    return met


def told_held(panel, state):
    """A round passes through each button that comes back to itself."""
    ahead = {button: onward(panel, state, button) for button in state}
    on_round = {button for button in state if button in ahead[button]}
    return tuple(
        button for button in state if button in on_round or ahead[button] & on_round
    )


class RoundTest(Checks, unittest.TestCase):
    def right(self, panel, state, some):
        ring = self.call(find_round, panel, state)
        if not some:
            self.assertIsNone(ring, (panel, state))
            return
        self.assertIsInstance(ring, tuple)
        self.assertTrue(is_round(panel, state, ring), (panel, state, ring))
        self.same(ring[0], min(ring))

    def test_example(self):
        self.example("""
            >>> from pressrelease.reaching import find_round
            >>> Q = ((1,), (2,), (0,), (0,))
            >>> [find_round(Q, (0, 1, 2, 3)), find_round(Q, (0, 1, 3))]
            [(0, 1, 2), None]
        """)

    def test_by_hand(self):
        self.same(self.call(find_round, ALONE, (0,)), None)
        self.same(self.call(find_round, P, (0, 1)), (0, 1))
        self.same(self.call(find_round, P, (0, 2)), None)
        # The smallest button of the state leads into the round but is not on it.
        self.same(self.call(find_round, ((3,), (2,), (1,), (2,)), (0, 1, 2, 3)), (1, 2))
        self.same(self.call(find_round, ((3,), (), (1, 3), (2,)), (0, 1, 2, 3)), (2, 3))
        self.same(self.call(find_round, ((4,), (), (3,), (4,), (2,)), (0, 2, 3, 4)), (2, 3, 4))

    def test_round_of_all_ten(self):
        self.same(self.call(find_round, round_panel(10), tuple(range(10))), tuple(range(10)))
        backward = tuple(((b - 1) % 10,) for b in range(10))
        wanted = (0, 9, 8, 7, 6, 5, 4, 3, 2, 1)
        self.same(self.call(find_round, backward, tuple(range(10))), wanted)
        for missing in range(10):
            state = tuple(b for b in range(10) if b != missing)
            self.right(round_panel(10), state, False)
            self.right(backward, state, False)

    def test_round_of_two(self):
        for one, other in itertools.permutations(range(10), 2):
            panel = list(bare_panel(10))
            panel[one], panel[other] = (other,), (one,)
            wanted = (min(one, other), max(one, other))
            self.same(self.call(find_round, tuple(panel), tuple(range(10))), wanted)
            self.same(self.call(find_round, tuple(panel), wanted), wanted)
            self.right(tuple(panel), tuple(b for b in range(10) if b != one), False)

    def test_empty_state(self):
        for panel in sample_panels():
            self.right(panel, (), False)

    def test_all_states_on_small_panels(self):
        for panel in small_panels() + drawn_panels(91, (4, 5), each=2):
            for state in all_states(len(panel)):
                self.right(panel, state, bool(listed_rounds(panel, state)))

    def test_larger_panels(self):
        draws = Draws(92)
        for panel in sample_panels() + drawn_panels(93, range(6, 11), each=2):
            many = len(panel)
            for state in sample_states(many) + [draws.state(many) for _ in range(8)]:
                some = any(button in onward(panel, state, button) for button in state)
                self.right(panel, state, some)

    def test_no_round_without_links_back(self):
        for many in range(1, 11):
            self.right(down_panel(many), tuple(range(many)), False)
            self.right(full_panel(many), tuple(range(many)), many > 1)


class HeldTest(Checks, unittest.TestCase):
    def test_example(self):
        self.example("""
            >>> from pressrelease.reaching import held_buttons
            >>> Q = ((1,), (2,), (0,), (0,))
            >>> [held_buttons(Q, (0, 1, 2, 3)), held_buttons(Q, (0, 1, 3))]
            [(0, 1, 2, 3), ()]
        """)

    def test_by_hand(self):
        self.same(self.call(held_buttons, ALONE, (0,)), ())
        self.same(self.call(held_buttons, P, (0, 1, 2)), (0, 1, 2))
        self.same(self.call(held_buttons, P, (0, 1)), (0, 1))
        self.same(self.call(held_buttons, P, (1, 2)), ())
        # 0 leads to 1, and 1 to the round of 3 and 4; 2 only comes from it.
        panel = ((1,), (3,), (), (2, 4), (3,))
        self.same(self.call(held_buttons, panel, (0, 1, 2, 3, 4)), (0, 1, 3, 4))
        self.same(self.call(held_buttons, panel, (0, 2, 3, 4)), (3, 4))
        self.same(self.call(held_buttons, panel, (0, 1, 2, 3)), ())

    def test_long_way_to_a_round(self):
        # 9 leads by way of 8, 7 and so on to the round of 0 and 1.
        panel = ((1,),) + tuple((b,) for b in range(9))
        everything = tuple(range(10))
        self.same(self.call(held_buttons, panel, everything), everything)
        for missing in range(2, 10):
            state = tuple(b for b in everything if b != missing)
            self.same(self.call(held_buttons, panel, state), tuple(range(missing)))
        for missing in (0, 1):
            state = tuple(b for b in everything if b != missing)
            self.same(self.call(held_buttons, panel, state), ())

    def test_long_way_from_a_round(self):
        # The round of 0 and 1 leads by way of 2, 3 and so on to 9, which ends there.
        panel = ((1,), (0, 2)) + tuple((b + 1,) for b in range(2, 9)) + ((),)
        self.same(self.call(held_buttons, panel, tuple(range(10))), (0, 1))

    def test_round_of_all_ten(self):
        everything = tuple(range(10))
        for panel in (round_panel(10), full_panel(10)):
            self.same(self.call(held_buttons, panel, everything), everything)
        self.same(self.call(held_buttons, round_panel(10), everything[:9]), ())
        self.same(self.call(held_buttons, full_panel(10), everything[:9]), everything[:9])

    def test_all_states_on_small_panels(self):
        for panel in small_panels() + drawn_panels(94, (4, 5), each=2):
            for state in all_states(len(panel)):
                rounds = listed_rounds(panel, state)
                wanted = told_held(panel, state)
                self.assertEqual(bool(wanted), bool(rounds))
                self.assertLessEqual({button for ring in rounds for button in ring}, set(wanted))
                self.same(self.call(held_buttons, panel, state), wanted, (panel, state))

    def test_larger_panels(self):
        draws = Draws(95)
        for panel in sample_panels() + drawn_panels(96, range(6, 11), each=2):
            many = len(panel)
            for state in sample_states(many) + [draws.state(many) for _ in range(8)]:
                self.same(self.call(held_buttons, panel, state), told_held(panel, state))
