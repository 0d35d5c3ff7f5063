"""Point 10: rows that bring all states to one, and sets of states."""

import unittest

from pressrelease.panels import run
from pressrelease.reaching import can_reach, held_buttons
from pressrelease.resets import is_reset, reset_to, shortest_reset, states_after
from tests.support import (
    ALONE, P, Q, Checks, Draws, all_states, bare_panel, bits_state, down_panel, drawn_panels,
    full_panel, mixed_panel, plain_rows, round_panel, row_bits, rows_in_order, sample_panels,
    sample_row, sample_states, small_panels, state_bits, told_effect,
)


def ends(panel, row):
    """All states, as bits, to which the row leads."""
    return {row_bits(panel, bits, row) for bits in range(1 << len(panel))}


class IsResetTest(Checks, unittest.TestCase):
    def test_example(self):
        self.example("""
            >>> from pressrelease.resets import is_reset
            >>> P = ((1,), (0,), (0, 1))
            >>> [is_reset(P, (2,)), is_reset(P, (0,))]
            [True, False]
        """)

    def test_empty_row(self):
        for panel in sample_panels():
            self.same(self.call(is_reset, panel, ()), False)

    def test_all_buttons(self):
        for panel in sample_panels():
            for row in (tuple(range(len(panel))), tuple(range(len(panel)))[::-1]):
                self.same(self.call(is_reset, panel, row), True)

    def test_all_rows_without_repeats_on_small_panels(self):
        for panel in small_panels() + drawn_panels(121, (4,), each=2):
            for row in plain_rows(len(panel)):
                wanted = "same" not in told_effect(panel, row)
                self.assertEqual(len(ends(panel, row)) == 1, wanted)
                self.same(is_reset(panel, row), wanted, (panel, row))

    def test_larger_panels(self):
        draws = Draws(122)
        for panel in sample_panels() + drawn_panels(123, (6, 8, 10), each=1):
            many = len(panel)
            rows = [draws.row(many, length) for length in (1, 2, 3, 5, 60)]
            for row in rows + [sample_row(many, 60), (many - 1,) * 60]:
                self.same(self.call(is_reset, panel, row), len(ends(panel, row)) == 1)


class ShortestResetTest(Checks, unittest.TestCase):
    def test_example(self):
        self.example("""
            >>> from pressrelease.resets import shortest_reset
            >>> P = ((1,), (0,), (0, 1))
            >>> Q = ((1,), (2,), (0,), (0,))
            >>> [shortest_reset(P), shortest_reset(Q)]
            [(2,), (1, 3)]
        """)

    def listed(self, panel):
        """The first reset in a listing by length, then in the order of tuples."""
        for row in rows_in_order(len(panel)):
            if "same" not in told_effect(panel, row):
                return row
        self.fail(panel)

    def test_listing(self):
        panels = small_panels() + sample_panels(6) + drawn_panels(124, (4, 5), each=4)
        for panel in panels + drawn_panels(125, (6,), each=2):
            self.same(self.call(shortest_reset, panel), self.listed(panel), panel)

    def test_listing_with_seven_to_ten_buttons(self):
        panels = drawn_panels(126, (7, 8, 9, 10), each=1)
        for panel in panels + [mixed_panel(8), mixed_panel(10), round_panel(8)]:
            if len(self.soon(shortest_reset, panel)) < 6:
                self.same(shortest_reset(panel), self.listed(panel), panel)

    def test_by_hand(self):
        self.same(self.call(shortest_reset, ALONE), (0,))
        for many in range(1, 11):
            self.same(self.soon(shortest_reset, bare_panel(many)), tuple(range(many)))
            self.same(self.soon(shortest_reset, full_panel(many)), (0,))
            self.same(self.soon(shortest_reset, down_panel(many)), (many - 1,))
        self.same(self.soon(shortest_reset, round_panel(10)), (0, 2, 4, 6, 8))
        self.same(self.soon(shortest_reset, round_panel(9)), (0, 1, 3, 5, 7))


class ResetToTest(Checks, unittest.TestCase):
    def test_example(self):
        self.example("""
            >>> from pressrelease.panels import run
            >>> from pressrelease.resets import reset_to
            >>> P = ((1,), (0,), (0, 1))
            >>> [run(P, (0, 1), reset_to(P, (0, 2))), reset_to(P, (0, 1)), reset_to(P, (0,))]
            [(0, 2), None, None]
        """)

    def right(self, panel, goal, some):
        row = self.call(reset_to, panel, goal)
        if not some:
            self.assertIsNone(row, (panel, goal))
            return
        self.assertIsInstance(row, tuple)
        self.no_button_twice(row)
        self.assertEqual(ends(panel, row), {state_bits(goal)}, (panel, goal, row))
        self.assertNotIn("same", told_effect(panel, row))

    def test_listing_on_small_panels(self):
        for panel in small_panels() + drawn_panels(127, (4, 5), each=2):
            found = set()
            for row in plain_rows(len(panel)):
                effect = told_effect(panel, row)
                if "same" not in effect:
                    found.add(tuple(b for b, word in enumerate(effect) if word == "on"))
            for goal in all_states(len(panel)):
                self.right(panel, goal, goal in found)

    def test_condition(self):
        draws = Draws(128)
        for panel in sample_panels() + drawn_panels(129, (6, 8, 10), each=1):
            many = len(panel)
            for goal in sample_states(many) + [draws.state(many) for _ in range(6)]:
                some = can_reach(panel, tuple(range(many)), goal)
                self.right(panel, goal, some and not held_buttons(panel, goal))

    def test_by_hand(self):
        self.right(ALONE, (0,), True)
        self.right(ALONE, (), False)
        self.right(Q, (0, 1, 2, 3), False)
        self.right(Q, (1, 3), True)
        everything = tuple(range(10))
        self.right(bare_panel(10), everything, True)
        self.right(bare_panel(10), everything[:9], False)
        self.right(full_panel(10), everything, False)
        self.right(full_panel(10), (4,), True)
        self.right(round_panel(10), (4,), True)
        self.right(round_panel(10), everything[1:], True)

    def test_from_each_state(self):
        for panel in (P, Q, mixed_panel(5), round_panel(5)):
            states = all_states(len(panel))
            for goal in states:
                row = reset_to(panel, goal)
                if row is not None:
                    self.same({run(panel, state, row) for state in states}, {goal})


class StatesAfterTest(Checks, unittest.TestCase):
    def test_example(self):
        self.example("""
            >>> from pressrelease.resets import states_after
            >>> P = ((1,), (0,), (0, 1))
            >>> states_after(P, ((), (0, 1), (1, 2)), (0,))
            ((0,), (0, 2))
        """)

    def right(self, panel, states, row):
        found = {row_bits(panel, state_bits(state), row) for state in states}
        wanted = tuple(sorted(bits_state(bits) for bits in found))
        got = self.call(states_after, panel, states, row)
        self.same(got, wanted, (panel, states, row))
        self.ascending(got)

    def test_no_states(self):
        for panel in sample_panels():
            for length in (0, 1, 60):
                row = sample_row(len(panel), length)
                self.same(self.call(states_after, panel, (), row), ())

    def test_one_state(self):
        for panel in sample_panels():
            for state in sample_states(len(panel)):
                for length in (0, 1, 2, 9, 60):
                    row = sample_row(len(panel), length)
                    self.right(panel, (state,), row)
                    self.same(states_after(panel, (state,), row), (run(panel, state, row),))

    def test_all_states(self):
        for panel in sample_panels(7) + [mixed_panel(10), bare_panel(10), round_panel(10)]:
            states = tuple(all_states(len(panel)))
            for length in (0, 1, 3, 60):
                self.right(panel, states, sample_row(len(panel), length))
            self.same(states_after(panel, states, ()), states)
            reset = shortest_reset(panel)
            self.same(len(states_after(panel, states, reset)), 1)

    def test_some_states(self):
        draws = Draws(130)
        for panel in small_panels() + drawn_panels(131, (4, 6, 9), each=1):
            many = len(panel)
            states = tuple(state for state in all_states(many) if draws.below(2))
            for length in (0, 1, 2, 5):
                self.right(panel, states, draws.row(many, length))

    def test_somewhat_longer_rows(self):
        self.right(P, tuple(all_states(3)), (0, 1) * 31)
