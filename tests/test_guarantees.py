"""Point 2: what holds over all functions together."""

import itertools
import unittest

from pressrelease.desks import Desk, Guess, GuessDesk
from pressrelease.effects import (
    all_effects, effect_of, find_difference, plain_row, row_for, shortest_row,
)
from pressrelease.errors import BadState, Rejected
from pressrelease.panels import run
from pressrelease.reaching import (
    can_reach, certificate_holds, find_certificate, find_round, held_buttons, reachable_states,
    shortest_way, sources_of,
)
from pressrelease.resets import is_reset, reset_to, shortest_reset, states_after
from pressrelease.shells import Shell
from tests.desk_support import do, drawn_edit, drawn_edits
from tests.support import (
    P, Q, Checks, Draws, all_states, bare_panel, drawn_panels, full_panel, mixed_panel, plain_rows,
    round_panel, sample_panels, small_panels, subsets,
)


class EffectsTest(Checks, unittest.TestCase):
    """(a) Equal effects are equal states from every state; only last presses count."""

    def outcome(self, panel, row):
        return tuple(run(panel, state, row) for state in all_states(len(panel)))

    def test_small_panels(self):
        for panel in small_panels() + drawn_panels(141, (4,), each=1):
            by_effect = {}
            by_outcome = {}
            for row in plain_rows(len(panel)):
                effect, outcome = effect_of(panel, row), self.outcome(panel, row)
                self.assertEqual(by_effect.setdefault(effect, outcome), outcome)
                self.assertEqual(by_outcome.setdefault(outcome, effect), effect)
            self.assertEqual(tuple(sorted(by_effect)), all_effects(panel))

    def test_rows_with_repeats(self):
        draws = Draws(142)
        for panel in sample_panels(6) + drawn_panels(143, (5, 7), each=1):
            many = len(panel)
            rows = [draws.row(many, length) for length in (1, 2, 3, 4, 4, 6, 60)]
            rows += [plain_row(row) for row in rows] + [shortest_row(panel, row) for row in rows]
            told = [(row, effect_of(panel, row), self.outcome(panel, row)) for row in rows]
            for (row, effect, outcome), (other, second, third) in itertools.product(told, repeat=2):
                self.assertEqual(effect == second, outcome == third, (panel, row, other))
                self.assertEqual(find_difference(panel, row, other) is None, effect == second)
            for row in rows:
                self.assertEqual(effect_of(panel, row), effect_of(panel, plain_row(row)))
                self.assertEqual(effect_of(panel, row_for(panel, effect_of(panel, row))),
                                 effect_of(panel, row))


class CertificatesTest(Checks, unittest.TestCase):
    """(b) and (f) A row, or one of the other two, and never both; all that holds is correct."""

    def values(self, panel):
        """Many tuples of all three kinds."""
        many = len(panel)
        for size in range(5):
            for row in itertools.product(range(many), repeat=size):
                yield ("row", row)
                yield ("round", row)
        for members in subsets(many):
            for button in range(many):
                yield ("stuck", button, members)

    def right_panel(self, panel):
        states = all_states(len(panel))
        values = list(self.values(panel))
        for start in states:
            reached = {run(panel, start, row) for row in plain_rows(len(panel))}
            for goal in states:
                accepted = {v[0] for v in values if certificate_holds(panel, start, goal, v)}
                if goal in reached:
                    self.assertEqual(accepted, {"row"}, (panel, start, goal))
                else:
                    self.assertTrue(accepted, (panel, start, goal))
                    self.assertNotIn("row", accepted, (panel, start, goal))
                found = find_certificate(panel, start, goal)
                self.same(certificate_holds(panel, start, goal, found), True)
                self.assertIn(found[0], accepted)
                self.same(can_reach(panel, start, goal), found[0] == "row")
                self.same(shortest_way(panel, start, goal) is not None, found[0] == "row")

    def test_one_to_three_buttons(self):
        for panel in [panel for panel in small_panels() if len(panel) < 3] + small_panels()[5::4]:
            self.right_panel(panel)

    def test_drawn_values_on_larger_panels(self):
        draws = Draws(144)
        for panel in drawn_panels(145, (5, 7, 10), each=1):
            many = len(panel)
            for _ in range(60):
                start, goal, members = (draws.state(many) for _ in range(3))
                row = draws.row(many, 1 + draws.below(8))
                goal = run(panel, goal, row) if draws.below(2) else goal
                members = tuple(button for button in members if button not in goal)
                walk = tuple(button for button in row + row if button in goal)
                values = [("row", row), ("round", walk)]
                values += [("stuck", button, members) for button in members]
                for value in values:
                    if certificate_holds(panel, start, goal, value):
                        reached = goal in reachable_states(panel, start)
                        self.same(reached, value[0] == "row", (panel, start, goal, value))

    def test_sources_lie_between_two_sets(self):
        for panel in small_panels() + drawn_panels(146, (4, 6, 8), each=1):
            for goal in all_states(len(panel))[::3]:
                sources = [set(state) for state in sources_of(panel, goal)]
                least, most = set.intersection(*sources), set.union(*sources)
                self.assertEqual(len(sources), 2 ** (len(most) - len(least)))
                self.assertEqual(tuple(sorted(least)), held_buttons(panel, goal))


class NothingLatchedTest(Checks, unittest.TestCase):
    """(c) From () exactly the states without a round can be reached."""

    def test_states_without_a_round(self):
        larger = [bare_panel(10), full_panel(10), round_panel(10), mixed_panel(9)]
        for panel in small_panels() + drawn_panels(147, range(4, 9), each=1) + larger:
            states = all_states(len(panel))
            wanted = tuple(state for state in states if find_round(panel, state) is None)
            self.same(reachable_states(panel, ()), wanted, panel)
            for state in states[::5]:
                self.same(can_reach(panel, (), state), state in wanted)


class EveryButtonTest(Checks, unittest.TestCase):
    """(d) A row in which every button occurs brings all states to one state."""

    def test_every_button_once(self):
        for panel in small_panels() + drawn_panels(148, (4,), each=1):
            many = len(panel)
            for row in itertools.permutations(range(many)):
                self.same(is_reset(panel, row), True)
                self.same(len({run(panel, state, row) for state in all_states(many)}), 1)

    def test_every_button_somewhere(self):
        draws = Draws(149)
        for panel in sample_panels() + drawn_panels(150, (5, 8, 10), each=1):
            many = len(panel)
            row = draws.row(many, 20) + tuple(range(many))[::-1] + draws.row(many, 30)
            self.same(is_reset(panel, row), True)
            after = states_after(panel, tuple(all_states(many)), row)
            self.same(after, (run(panel, (), row),))


class EditedDeskTest(Checks, unittest.TestCase):
    """(e) What was edited before does not matter to what a desk is now."""

    def like_new(self, desk, goals):
        fresh = Desk(desk.panel, desk.latched)
        self.same((desk.panel, desk.latched, desk.held), (fresh.panel, fresh.latched, fresh.held))
        self.same(desk.state(), fresh.state())
        self.same(desk.held, held_buttons(desk.panel, desk.latched))
        self.assertTrue(desk == fresh and fresh == desk)
        for goal in goals:
            way = desk.way_to(goal)
            self.same(way, fresh.way_to(goal))
            self.same(way, shortest_way(desk.panel, desk.latched, goal))
            self.same(list(desk.walk(goal)), list(fresh.walk(goal)))
        for value in (None, (len(desk.panel),), [0], (True,)):
            self.fails(BadState(value), desk.way_to, value)
        shells = Shell(desk), Shell(fresh)
        for line in ("latched", "held", "panel", "way none", "way 0", "way 9", "press", "way 1 0"):
            self.same(shells[0].execute(line), shells[1].execute(line))

    def change(self, draws, desk):
        """An edit, an undo, or a batch that is done, stopped, refused or broken off."""
        choice, batch = draws.below(7), drawn_edits(draws, desk.panel, 3)
        if choice == 0 and len(desk):
            desk.undo()
        elif choice == 1:
            desk.attempt(batch)
        elif choice == 2:
            desk.attempt(batch, watch=lambda busy: len(busy) % 2)
        elif choice == 3:
            with self.assertRaises(Rejected):
                desk.attempt([*batch, ("link", 0, 0)])
        elif choice == 4:
            with self.assertRaises(ZeroDivisionError):
                desk.attempt(batch, watch=lambda busy: 0 // (len(busy) % 2))
        else:
            do(desk, drawn_edit(draws, desk.panel))

    def test_desks(self):
        draws = Draws(151)
        for panel in [P, Q] + drawn_panels(152, (1, 2, 3, 4, 5), each=1):
            states = all_states(len(panel))
            for make in (Desk, GuessDesk):
                desk = make(panel, draws.state(len(panel)))
                for _ in range(20):
                    self.change(draws, desk)
                    self.like_new(desk, states[draws.below(3)::3])

    def test_larger_desks(self):
        draws = Draws(153)
        for panel in drawn_panels(154, (8, 10), each=1):
            for make in (Desk, GuessDesk):
                desk = make(panel, draws.state(len(panel)))
                for _ in range(12):
                    self.change(draws, desk)
                self.like_new(desk, [draws.state(len(panel)) for _ in range(3)])

    def test_while_a_watch_runs(self):
        draws = Draws(155)
        for panel in [P, Q] + drawn_panels(156, (4, 6), each=1):
            for make in (Desk, GuessDesk):
                desk = make(panel, draws.state(len(panel)))
                goals = [draws.state(len(panel)) for _ in range(3)]
                desk.attempt(
                    drawn_edits(draws, panel, 6),
                    watch=lambda busy: self.fresh_queries(busy, goals),
                )

    def fresh_queries(self, busy, goals):
        fresh = Desk(busy.panel, busy.latched)
        self.same(busy.held, fresh.held)
        for goal in goals:
            self.same(busy.way_to(goal), fresh.way_to(goal))
            self.same(list(busy.walk(goal)), list(fresh.walk(goal)))


class EditedPanelTest(Checks, unittest.TestCase):
    """(a) to (d) and (f) for the panels and states of desks that were edited."""

    def desks(self, seed, sizes):
        draws = Draws(seed)
        for panel in [P, Q] + drawn_panels(seed, sizes, each=1):
            desk = GuessDesk(panel, draws.state(len(panel)))
            for _ in range(3):
                desk.attempt(drawn_edits(draws, desk.panel, 10))
                yield desk, draws

    def test_effects_and_guesses(self):
        for desk, draws in self.desks(157, (3, 5, 6)):
            row = draws.row(len(desk.panel), 6)
            guess, copy = Guess(desk.panel), GuessDesk(desk.panel, desk.latched)
            for button in row:
                guess.note(button)
                copy.press(button)
            self.same(guess.known, effect_of(desk.panel, plain_row(row)))
            self.same(copy.known, effect_of(desk.panel, shortest_row(desk.panel, row)))
            self.same("same" not in copy.known, is_reset(desk.panel, row))

    def test_ways_and_certificates(self):
        for desk, draws in self.desks(158, (3, 5, 8)):
            for _ in range(4):
                goal = draws.state(len(desk.panel))
                found = find_certificate(desk.panel, desk.latched, goal)
                self.same(certificate_holds(desk.panel, desk.latched, goal, found), True)
                self.same(desk.way_to(goal) is None, found[0] != "row")
                self.same(desk.latched in sources_of(desk.panel, goal), found[0] == "row")
                steps = [("press", button) for button in desk.way_to(goal) or ()]
                if found[0] == "row":
                    other = Desk(desk.panel, desk.latched)
                    self.same(other.attempt(steps), len(steps))
                    self.same(other.latched, goal)
                    row = ("row", desk.way_to(goal))
                    self.same(certificate_holds(desk.panel, desk.latched, goal, row), True)

    def test_nothing_latched_and_every_button(self):
        for desk, draws in self.desks(159, (3, 5, 7)):
            many = len(desk.panel)
            empty = Desk(desk.panel, ())
            for goal in [draws.state(many) for _ in range(4)]:
                never = empty.way_to(goal) is None
                self.same(never, find_round(desk.panel, goal) is not None)
                self.same(never, Desk(desk.panel, goal).held != ())
            row = tuple(range(many))
            guess = Guess(desk.panel)
            self.same([guess.note(button) for button in row][-1], True)
            self.same(is_reset(desk.panel, shortest_reset(desk.panel)), True)
            last = run(desk.panel, (), row)
            self.same(run(desk.panel, desk.latched, reset_to(desk.panel, last)), last)
