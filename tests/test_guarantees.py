"""Point 2: what holds over all functions together."""

import itertools
import unittest

from pressrelease.effects import (
    all_effects, effect_of, find_difference, plain_row, row_for, shortest_row,
)
from pressrelease.panels import run
from pressrelease.reaching import (
    can_reach, certificate_holds, find_certificate, find_round, held_buttons, reachable_states,
    shortest_way, sources_of,
)
from pressrelease.resets import is_reset, states_after
from tests.support import (
    Checks, Draws, all_states, bare_panel, drawn_panels, full_panel, mixed_panel, plain_rows,
    round_panel, sample_panels, small_panels, subsets,
)


class EffectsTest(Checks, unittest.TestCase):
    """(a) Equal effects are equal states from every state; only last presses count."""

    def outcome(self, panel, row):
        return tuple(run(panel, state, row) for state in all_states(len(panel)))

    def test_small_panels(self):
        for panel in small_panels() + drawn_panels(141, (4,), each=1):
            by_effect = {}
            by_outcome = {}
            for row in plain_rows(len(panel)):
                effect, outcome = effect_of(panel, row), self.outcome(panel, row)
                self.assertEqual(by_effect.setdefault(effect, outcome), outcome)
                self.assertEqual(by_outcome.setdefault(outcome, effect), effect)
            self.assertEqual(tuple(sorted(by_effect)), all_effects(panel))

    def test_rows_with_repeats(self):
        draws = Draws(142)
        for panel in sample_panels(6) + drawn_panels(143, (5, 7), each=1):
            many = len(panel)
            rows = [draws.row(many, length) for length in (1, 2, 3, 4, 4, 6, 60)]
            rows += [plain_row(row) for row in rows] + [shortest_row(panel, row) for row in rows]
            told = [(row, effect_of(panel, row), self.outcome(panel, row)) for row in rows]
            for (row, effect, outcome), (other, second, third) in itertools.product(told, repeat=2):
                self.assertEqual(effect == second, outcome == third, (panel, row, other))
                self.assertEqual(find_difference(panel, row, other) is None, effect == second)
            for row in rows:
                self.assertEqual(effect_of(panel, row), effect_of(panel, plain_row(row)))
                self.assertEqual(effect_of(panel, row_for(panel, effect_of(panel, row))),
                                 effect_of(panel, row))


class CertificatesTest(Checks, unittest.TestCase):
    """(b) and (f) A row, or one of the other two, and never both; all that holds is correct."""

    def values(self, panel):
        """Many tuples of all three kinds."""
        many = len(panel)
        for size in range(5):
            for row in itertools.product(range(many), repeat=size):
                yield ("row", row)
                yield ("round", row)
        for members in subsets(many):
            for button in range(many):
                yield ("stuck", button, members)

    def right_panel(self, panel):
        states = all_states(len(panel))
        values = list(self.values(panel))
        for start in states:
            reached = {run(panel, start, row) for row in plain_rows(len(panel))}
            for goal in states:
                accepted = {v[0] for v in values if certificate_holds(panel, start, goal, v)}
                if goal in reached:
                    self.assertEqual(accepted, {"row"}, (panel, start, goal))
                else:
                    self.assertTrue(accepted, (panel, start, goal))
                    self.assertNotIn("row", accepted, (panel, start, goal))
                found = find_certificate(panel, start, goal)
                self.same(certificate_holds(panel, start, goal, found), True)
                self.assertIn(found[0], accepted)
                self.same(can_reach(panel, start, goal), found[0] == "row")
                self.same(shortest_way(panel, start, goal) is not None, found[0] == "row")

    def test_one_to_three_buttons(self):
        for panel in [panel for panel in small_panels() if len(panel) < 3] + small_panels()[5::4]:
            self.right_panel(panel)

    def test_drawn_values_on_larger_panels(self):
        draws = Draws(144)
        for panel in drawn_panels(145, (5, 7, 10), each=1):
            many = len(panel)
            for _ in range(60):
                start, goal, members = (draws.state(many) for _ in range(3))
                row = draws.row(many, 1 + draws.below(8))
                goal = run(panel, goal, row) if draws.below(2) else goal
                members = tuple(button for button in members if button not in goal)
                walk = tuple(button for button in row + row if button in goal)
                values = [("row", row), ("round", walk)]
                values += [("stuck", button, members) for button in members]
                for value in values:
                    if certificate_holds(panel, start, goal, value):
                        reached = goal in reachable_states(panel, start)
                        self.same(reached, value[0] == "row", (panel, start, goal, value))

    def test_sources_lie_between_two_sets(self):
        for panel in small_panels() + drawn_panels(146, (4, 6, 8), each=1):
            for goal in all_states(len(panel))[::3]:
                sources = [set(state) for state in sources_of(panel, goal)]
                least, most = set.intersection(*sources), set.union(*sources)
                self.assertEqual(len(sources), 2 ** (len(most) - len(least)))
                self.assertEqual(tuple(sorted(least)), held_buttons(panel, goal))


class NothingLatchedTest(Checks, unittest.TestCase):
    """(c) From () exactly the states without a round can be reached."""

    def test_states_without_a_round(self):
        larger = [bare_panel(10), full_panel(10), round_panel(10), mixed_panel(9)]
        for panel in small_panels() + drawn_panels(147, range(4, 9), each=1) + larger:
            states = all_states(len(panel))
            wanted = tuple(state for state in states if find_round(panel, state) is None)
            self.same(reachable_states(panel, ()), wanted, panel)
            for state in states[::5]:
                self.same(can_reach(panel, (), state), state in wanted)


class EveryButtonTest(Checks, unittest.TestCase):
    """(d) A row in which every button occurs brings all states to one state."""

    def test_every_button_once(self):
        for panel in small_panels() + drawn_panels(148, (4,), each=1):
            many = len(panel)
            for row in itertools.permutations(range(many)):
                self.same(is_reset(panel, row), True)
                self.same(len({run(panel, state, row) for state in all_states(many)}), 1)

    def test_every_button_somewhere(self):
        draws = Draws(149)
        for panel in sample_panels() + drawn_panels(150, (5, 8, 10), each=1):
            many = len(panel)
            row = draws.row(many, 20) + tuple(range(many))[::-1] + draws.row(many, 30)
            self.same(is_reset(panel, row), True)
            after = states_after(panel, tuple(all_states(many)), row)
            self.same(after, (run(panel, (), row),))
