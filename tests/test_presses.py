"""Point 5: single presses and rows of them."""

import unittest

from pressrelease.errors import BadRow
from pressrelease.panels import press_button, run
from tests.support import (
    ALONE, HUGE, NO_NUMBERS, P, Q, Checks, bare_panel, full_panel, mixed_panel, no_buttons,
    pressed, sample_panels, sample_row, sample_states, small_panels, subsets,
)


class PressTest(Checks, unittest.TestCase):
    def test_example(self):
        self.example("""
            >>> from pressrelease.panels import press_button
            >>> P = ((1,), (0,), (0, 1))
            >>> press_button(P, (1, 2), 0)
            (0, 2)
        """)

    def test_some_by_hand(self):
        self.same(self.call(press_button, ALONE, (), 0), (0,))
        self.same(self.call(press_button, ALONE, (0,), 0), (0,))
        self.same(self.call(press_button, P, (), 2), (2,))
        self.same(self.call(press_button, P, (0, 1, 2), 2), (2,))
        self.same(self.call(press_button, P, (0, 1, 2), 1), (1, 2))
        self.same(self.call(press_button, Q, (0, 1, 2, 3), 3), (1, 2, 3))
        self.same(self.call(press_button, Q, (2, 3), 1), (1, 3))
        self.same(self.call(press_button, bare_panel(10), (9,), 0), (0, 9))
        self.same(self.call(press_button, bare_panel(10), (0, 9), 5), (0, 5, 9))
        self.same(self.call(press_button, full_panel(10), tuple(range(10)), 4), (4,))

    def test_all_presses_on_small_panels(self):
        for panel in small_panels():
            for state in subsets(len(panel)):
                for button in range(len(panel)):
                    wanted = pressed(panel, state, button)
                    self.same(press_button(panel, state, button), wanted, (panel, state, button))

    def test_sample_presses(self):
        for panel in sample_panels():
            for state in sample_states(len(panel)):
                for button in range(len(panel)):
                    wanted = pressed(panel, state, button)
                    self.same(self.call(press_button, panel, state, button), wanted)


class RunTest(Checks, unittest.TestCase):
    def test_example(self):
        self.example("""
            >>> from pressrelease.panels import run
            >>> P = ((1,), (0,), (0, 1))
            >>> [run(P, (), (0, 1, 2)), run(P, (1,), (2, 0))]
            [(2,), (0, 2)]
        """)

    def test_empty_row(self):
        for panel in sample_panels():
            for state in sample_states(len(panel)):
                self.same(self.call(run, panel, state, ()), state)

    def test_rows(self):
        for panel in sample_panels():
            for state in sample_states(len(panel)):
                for length in (1, 2, 3, 7, 59, 60):
                    row = sample_row(len(panel), length)
                    wanted = state
                    for button in row:
                        wanted = pressed(panel, wanted, button)
                    self.same(self.call(run, panel, state, row), wanted, (panel, state, row))

    def test_sixty_presses_by_hand(self):
        self.same(self.call(run, P, (), (0, 1) * 30), (1,))
        self.same(self.call(run, P, (0,), (2,) + (0, 1) * 29 + (0,)), (0, 2))
        self.same(self.call(run, bare_panel(10), (), tuple(range(10)) * 6), tuple(range(10)))

    def test_more_than_sixty_items(self):
        for panel in (ALONE, P, Q, full_panel(10)):
            for length in (61, 62, 100, 1000):
                self.fails(BadRow(None), run, panel, (), (0,) * length)
        for value in no_buttons(3):
            for at in (0, 30, 60):
                row = [0] * 61
                row[at] = value
                self.fails(BadRow(None), run, P, (), tuple(row))

    def test_not_a_tuple(self):
        for panel in (ALONE, P, mixed_panel(10)):
            for value in NO_NUMBERS + (0, 1, -1, HUGE, [0, 0], [99], list(range(61)), {"a": (0,)}):
                if not isinstance(value, tuple):
                    self.fails(BadRow(None), run, panel, (0,), value)

    def test_item_that_is_no_button(self):
        for panel in (ALONE, P, Q, full_panel(10)):
            many = len(panel)
            for value in no_buttons(many):
                for length in (1, 2, 5, 60):
                    for at in (0, length // 2, length - 1):
                        row = list(sample_row(many, length))
                        row[at] = value
                        self.fails(BadRow(at), run, panel, (0,), tuple(row))

    def test_first_of_several_wrong_items(self):
        self.fails(BadRow(1), run, P, (), (0, 3, 4))
        self.fails(BadRow(0), run, P, (), (None, 0, -1))
        self.fails(BadRow(2), run, P, (), (0, 1, True, None, 2, 3))
        self.fails(BadRow(58), run, P, (), (0,) * 58 + (3, 3))

    def test_button_of_a_larger_panel(self):
        for many in range(1, 11):
            panel = full_panel(many)
            self.same(self.call(run, panel, (), (many - 1,)), (many - 1,))
            self.fails(BadRow(0), run, panel, (), (many,))

    def test_true_is_not_one(self):
        for _ in range(3):
            self.same(self.call(run, P, (2,), (0, 1)), (1, 2))
            self.fails(BadRow(0), run, P, (2,), (False, True))
            self.fails(BadRow(1), run, P, (2,), (0, True))
            self.fails(BadRow(0), run, P, (2,), (False, 1))
            self.same(self.call(run, P, (2,), (0, 1)), (1, 2))
