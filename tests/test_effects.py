"""Point 6: what rows of presses do, whatever was latched before."""

import unittest

from pressrelease.effects import effect_of, find_difference, plain_row, shortest_row
from tests.support import (
    ALONE, HUGE, P, Q, Checks, Draws, all_states, bare_panel, down_panel, drawn_panels,
    effect_bits, full_panel, mixed_panel, plain_rows, row_bits, rows_by_effect, sample_panels,
    sample_row, small_panels, state_bits, told_effect,
)


def searched_difference(panel, row, other):
    """The first state, in the order of tuples, from which the rows lead apart."""
    for state in all_states(len(panel)):
        bits = state_bits(state)
        if row_bits(panel, bits, row) != row_bits(panel, bits, other):
            return state
    return None


class EffectTest(Checks, unittest.TestCase):
    def test_example(self):
        self.example("""
            >>> from pressrelease.effects import effect_of
            >>> P = ((1,), (0,), (0, 1))
            >>> [effect_of(P, (2, 0)), effect_of(P, (0,)), effect_of(P, ())]
            [('on', 'off', 'on'), ('on', 'off', 'same'), ('same', 'same', 'same')]
        """)

    def test_some_by_hand(self):
        self.same(self.call(effect_of, ALONE, ()), ("same",))
        self.same(self.call(effect_of, ALONE, (0,) * 60), ("on",))
        self.same(self.call(effect_of, P, (0, 2)), ("off", "off", "on"))
        self.same(self.call(effect_of, P, (0, 1, 0)), ("on", "off", "same"))
        self.same(self.call(effect_of, Q, (3, 1)), ("off", "on", "off", "on"))
        self.same(self.call(effect_of, Q, (0, 1, 2)), ("off", "on", "on", "same"))
        self.same(self.call(effect_of, full_panel(10), (3, 7)), ("off",) * 7 + ("on", "off", "off"))

    def test_empty_row(self):
        for panel in sample_panels():
            self.same(self.call(effect_of, panel, ()), ("same",) * len(panel))

    def test_single_presses(self):
        for panel in sample_panels():
            for button in range(len(panel)):
                wanted = ["same"] * len(panel)
                wanted[button] = "on"
                for other in panel[button]:
                    wanted[other] = "off"
                self.same(self.call(effect_of, panel, (button,)), tuple(wanted))

    def test_rows(self):
        draws = Draws(61)
        for panel in sample_panels() + drawn_panels(62, range(1, 11), each=1):
            many = len(panel)
            for length in (2, 3, 4, 7, 20, 59, 60):
                for row in (sample_row(many, length), draws.row(many, length)):
                    self.same(self.call(effect_of, panel, row), told_effect(panel, row))

    def test_all_rows_without_repeats_on_small_panels(self):
        for panel in small_panels():
            for row in plain_rows(len(panel)):
                self.same(effect_of(panel, row), told_effect(panel, row), (panel, row))

    def test_somewhat_longer_rows(self):
        row = sample_row(10, 64)
        self.same(self.call(effect_of, mixed_panel(10), row), told_effect(mixed_panel(10), row))


class PlainRowTest(Checks, unittest.TestCase):
    def right(self, row, wanted):
        self.same(self.call(plain_row, row), wanted)
        self.same(self.call(plain_row, wanted), wanted)

    def test_example(self):
        self.example("""
            >>> from pressrelease.effects import plain_row
            >>> plain_row((0, 1, 0))
            (1, 0)
        """)

    def test_some_by_hand(self):
        self.right((), ())
        self.right((5,), (5,))
        self.right((5, 5), (5,))
        self.right((3, 1, 2), (3, 1, 2))
        self.right((1, 2, 1, 3, 2), (1, 3, 2))
        self.right((0, 0, 1, 1, 0, 2), (1, 0, 2))
        self.right((-1, -2, -1, HUGE, -HUGE, -2, HUGE), (-1, -HUGE, -2, HUGE))
        self.right((HUGE, HUGE + 1, HUGE), (HUGE + 1, HUGE))

    def test_thousand_numbers(self):
        self.right((7,) * 1000, (7,))
        self.right(tuple(range(1000)), tuple(range(1000)))
        self.right(tuple(range(0, -1000, -1)), tuple(range(0, -1000, -1)))
        self.right(tuple(range(500)) * 2, tuple(range(500)))
        self.right(tuple(range(500)) + tuple(range(499, -1, -1)), tuple(range(499, -1, -1)))
        self.right((HUGE, -HUGE) * 500, (HUGE, -HUGE))
        self.right((HUGE,) + (1,) * 998 + (-1,), (HUGE, 1, -1))

    def test_drawn_rows(self):
        draws = Draws(63)
        for length in (2, 3, 10, 60, 61, 300, 999, 1000):
            for bound in (2, 5, 10, 300):
                for shift in (0, -3, HUGE - 5, -HUGE):
                    row = tuple(shift + draws.below(bound) for _ in range(length))
                    wanted = [
                        button for at, button in enumerate(row) if button not in row[at + 1:]
                    ]
                    self.right(row, tuple(wanted))

    def test_same_effect(self):
        for panel in sample_panels():
            for length in (0, 1, 5, 60):
                row = sample_row(len(panel), length)
                self.same(effect_of(panel, plain_row(row)), effect_of(panel, row))


class DifferenceTest(Checks, unittest.TestCase):
    def right(self, panel, row, other):
        wanted = searched_difference(panel, row, other)
        self.same(self.call(find_difference, panel, row, other), wanted, (panel, row, other))
        self.same(self.call(find_difference, panel, other, row), wanted, (panel, other, row))
        return wanted

    def test_example(self):
        self.example("""
            >>> from pressrelease.effects import find_difference
            >>> P = ((1,), (0,), (0, 1))
            >>> [find_difference(P, (0, 1, 0), (0,)), find_difference(P, (0,), (1,)), find_difference(P, (), (2,))]
            [None, (), ()]
        """)

    def test_all_pairs_of_plain_rows_on_small_panels(self):
        seen = set()
        for panel in small_panels():
            rows = plain_rows(len(panel))
            for row in rows:
                for other in rows:
                    wanted = searched_difference(panel, row, other)
                    self.same(find_difference(panel, row, other), wanted, (panel, row, other))
                    seen.add(wanted)
        self.assertEqual(seen, {None, (), (0,), (0, 1), (0, 1, 2)})

    def test_off_and_same_only(self):
        for many in range(3, 11):
            for button in range(many):
                # The press of one is undone by other, but for the button that it released.
                one, other = [b for b in range(many) if b != button][-2:]
                panel = list(bare_panel(many))
                panel[one], panel[other] = (button,), (one,)
                got = self.right(tuple(panel), (other,), (one, other))
                self.same(got, tuple(range(button + 1)))

    def test_two_buttons_with_off_and_same(self):
        panel = ((), (), (), (0, 1, 4), (3,))
        self.same(self.right(panel, (4,), (3, 4)), (0,))
        panel = ((4,), (), (), (1, 2, 0), (3,))
        self.same(self.right(panel, (0,), (3, 0)), ())
        panel = ((3,), (), (), (0, 1, 2))
        self.same(self.right(panel, (0,), (3, 0)), (0, 1))
        panel = ((9,),) + ((),) * 8 + ((0, 8),)
        self.same(self.right(panel, (0,), (9, 0)), tuple(range(9)))

    def test_off_and_same_beside_on(self):
        panel = ((), (), (0,), ())
        self.same(self.right(panel, (2, 3), (2,)), ())
        self.same(self.right(panel, (2,), (3,)), ())
        self.same(self.right(panel, (), (0, 2)), ())

    def test_one_press_more_or_less(self):
        for panel in sample_panels() + drawn_panels(64, (4, 7, 10), each=1):
            row = sample_row(len(panel), 12)
            for at in range(12):
                self.right(panel, row, row[:at] + row[at + 1:])
            for button in range(0, len(panel), 3):
                self.right(panel, row[:6], (button,) + row[:6])

    def test_another_press(self):
        for panel in sample_panels() + drawn_panels(65, (4, 7, 10), each=1):
            many = len(panel)
            row = sample_row(many, 8)
            for at in range(8):
                self.right(panel, row, row[:at] + ((row[at] + 1) % many,) + row[at + 1:])

    def test_neighbours_change_places(self):
        for panel in sample_panels() + drawn_panels(66, (4, 7, 10), each=1):
            row = sample_row(len(panel), 10)
            for at in range(9):
                self.right(panel, row, row[:at] + (row[at + 1], row[at]) + row[at + 2:])

    def test_empty_row(self):
        for panel in sample_panels():
            self.same(self.right(panel, (), ()), None)
            for length in (1, 2, 60):
                self.same(self.right(panel, (), sample_row(len(panel), length)), ())

    def test_drawn_rows(self):
        draws = Draws(67)
        for panel in drawn_panels(68, range(2, 11), each=1):
            many = len(panel)
            for length in (1, 2, 5, 60):
                row = draws.row(many, length)
                self.right(panel, row, draws.row(many, length))
                self.same(self.right(panel, row, plain_row(row)), None)


class ShortestRowTest(Checks, unittest.TestCase):
    def test_example(self):
        self.example("""
            >>> from pressrelease.effects import shortest_row
            >>> P = ((1,), (0,), (0, 1))
            >>> shortest_row(P, (0, 1, 0))
            (0,)
        """)

    def test_some_by_hand(self):
        self.same(self.call(shortest_row, P, ()), ())
        self.same(self.call(shortest_row, P, (2, 0)), (2, 0))
        self.same(self.call(shortest_row, P, (0, 1, 2)), (2,))
        self.same(self.call(shortest_row, bare_panel(4), (3, 1, 3, 2, 1)), (1, 2, 3))
        # Button 2 must come first, though it is the greatest one.
        self.same(self.call(shortest_row, ((), (), (0, 1)), (2, 1, 0)), (2, 0, 1))
        # Either 1 or 2 releases 3, and both end up released by 0.
        self.same(self.call(shortest_row, ((1, 2), (3,), (3,), ()), (2, 0)), (1, 0))
        self.same(self.call(shortest_row, full_panel(10), tuple(range(10)) * 6), (9,))

    def listed(self, panel):
        """The first row of each effect in a listing by length, then in the order of tuples."""
        first = {}
        for row in plain_rows(len(panel)):
            first.setdefault(told_effect(panel, row), row)
        return first

    def test_all_rows_without_repeats_on_small_panels(self):
        panels = small_panels() + drawn_panels(71, (4,), each=3) + drawn_panels(72, (5,), each=1)
        for panel in panels:
            first = self.listed(panel)
            for row in plain_rows(len(panel)):
                wanted = first[told_effect(panel, row)]
                self.same(shortest_row(panel, row), wanted, (panel, row))

    def test_six_buttons(self):
        for panel in drawn_panels(73, (6,), each=1) + [mixed_panel(6), down_panel(6)]:
            first = self.listed(panel)
            for row in plain_rows(6)[::17]:
                self.same(self.call(shortest_row, panel, row), first[told_effect(panel, row)])

    def test_rows_with_repeats(self):
        draws = Draws(74)
        for panel in small_panels() + drawn_panels(75, (4,), each=2):
            first = self.listed(panel)
            for length in (2, 4, 9, 60):
                row = draws.row(len(panel), length)
                self.same(self.call(shortest_row, panel, row), first[told_effect(panel, row)])

    def test_ten_buttons_and_sixty_presses(self):
        draws = Draws(76)
        for panel in sample_panels()[-22:] + drawn_panels(77, (8, 9, 10), each=1):
            many = len(panel)
            first = rows_by_effect(panel)
            rows = [sample_row(many, 60), tuple(range(many)) * 6, tuple(range(many))[::-1]]
            rows += [draws.row(many, length) for length in (3, 5, 8, 10, 12, 15, 60)]
            for row in rows:
                got = self.soon(shortest_row, panel, row)
                self.same(got, first[effect_bits(told_effect(panel, row))], (panel, row))
                self.same(shortest_row(panel, row), got)

    def test_all_effects_of_seven_buttons(self):
        for panel in drawn_panels(78, (7,), each=1):
            for row in list(rows_by_effect(panel).values())[::5]:
                self.same(shortest_row(panel, row), row, panel)

    def test_one_effect_one_shortest_row(self):
        draws = Draws(79)
        for panel in drawn_panels(80, (4, 6, 8), each=1):
            many = len(panel)
            known = {}
            for length in list(range(8)) * 6:
                row = draws.row(many, length)
                got = shortest_row(panel, row)
                self.same(known.setdefault(effect_of(panel, row), got), got)
                self.same(shortest_row(panel, got), got)
