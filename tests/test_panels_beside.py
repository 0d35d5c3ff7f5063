"""Section 5: of two panels side by side each does what it does alone."""

import itertools
import unittest

from pressrelease.changes import beside
from pressrelease.effects import (
    all_effects, count_effects, effect_of, find_difference, row_for, shortest_row,
)
from pressrelease.errors import TooLarge
from pressrelease.panels import releasers_of, run
from pressrelease.reaching import (
    can_reach, certificate_holds, find_certificate, find_round, held_buttons, reachable_states,
    shortest_way, sources_of,
)
from pressrelease.resets import is_reset, reset_to, shortest_reset, states_after
from tests.support import ALONE, P, Q, Checks, Draws, all_states, drawn_panels, small_panels

SIZES = ((1, 1), (1, 4), (2, 3), (3, 3), (4, 2), (3, 4), (5, 2), (4, 5), (5, 5), (9, 1))


def joined(many, one, other):
    """A row, or a state, of both panels; the first one has that many buttons."""
    return one + tuple(many + button for button in other)


def mixed(draws, many, row, other):
    """The presses of both rows, those of each in their order."""
    row, other = list(row), [many + button for button in other]
    presses = []
    while row or other:
        first = row if not other or row and draws.below(2) else other
        presses.append(first.pop(0))
    return tuple(presses)


def parts(many, row):
    return (tuple(button for button in row if button < many),
            tuple(button - many for button in row if button >= many))


class BesideTest(Checks, unittest.TestCase):
    def cases(self, seed, most=10):
        draws = Draws(seed)
        yield P, Q, draws
        yield ALONE, P, draws
        for one, other in SIZES:
            for links in (2, 3, 5):
                if one + other <= most:
                    yield draws.panel(one, links), draws.panel(other, links), draws

    def test_presses_and_effects(self):
        for one, other, draws in self.cases(221):
            both, many = beside(one, other), len(one)
            for length in (0, 1, 3, 8, 30):
                rows = draws.row(many, length), draws.row(len(other), length)
                row = mixed(draws, many, *rows)
                starts = draws.state(many), draws.state(len(other))
                ends = [run(*told) for told in zip((one, other), starts, rows)]
                self.same(run(both, joined(many, *starts), row), joined(many, *ends))
                effects = effect_of(one, rows[0]), effect_of(other, rows[1])
                self.same(effect_of(both, row), effects[0] + effects[1])
                self.same(is_reset(both, row), is_reset(one, rows[0]) and is_reset(other, rows[1]))
                self.same(len(shortest_row(both, row)),
                          len(shortest_row(one, rows[0])) + len(shortest_row(other, rows[1])))

    def test_releasers(self):
        for one, other, draws in self.cases(222):
            both, many = beside(one, other), len(one)
            for button in range(many):
                self.same(releasers_of(both, button), releasers_of(one, button))
            for button in range(len(other)):
                self.same(releasers_of(both, many + button),
                          joined(many, (), releasers_of(other, button)))

    def test_differences(self):
        for one, other, draws in self.cases(223):
            both, many = beside(one, other), len(one)
            pairs = [(draws.row(many, 3), draws.row(len(other), 3)) for _ in range(4)]
            for (row, far), (second, last) in itertools.product(pairs, repeat=2):
                found = find_difference(both, joined(many, row, far), joined(many, second, last))
                alike = find_difference(one, row, second), find_difference(other, far, last)
                self.same(found is None, alike == (None, None))

    def test_words(self):
        for one, other, draws in self.cases(224):
            both = beside(one, other)
            for _ in range(6):
                words = [
                    effect_of(panel, draws.row(len(panel), 3)) if draws.below(3)
                    else tuple(("on", "off", "same")[draws.below(3)] for _ in panel)
                    for panel in (one, other)
                ]
                row = row_for(both, words[0] + words[1])
                rows = row_for(one, words[0]), row_for(other, words[1])
                self.same(row is None, None in rows)

    def test_number_of_effects(self):
        for one, other, draws in self.cases(225):
            both = beside(one, other)
            if len(both) > 7:
                self.fails(TooLarge(7), count_effects, both)
                continue
            self.same(count_effects(both), count_effects(one) * count_effects(other))
            pairs = itertools.product(all_effects(one), all_effects(other))
            self.same(all_effects(both), tuple(sorted(early + late for early, late in pairs)))

    def test_held_buttons_and_rounds(self):
        for one, other, draws in self.cases(226):
            both, many = beside(one, other), len(one)
            for _ in range(6):
                states = draws.state(many), draws.state(len(other))
                helds = held_buttons(one, states[0]), held_buttons(other, states[1])
                state = joined(many, *states)
                self.same(held_buttons(both, state), joined(many, *helds))
                self.same(find_round(both, state) is None, helds == ((), ()))

    def test_ways(self):
        for one, other, draws in self.cases(227):
            both, many = beside(one, other), len(one)
            for _ in range(4):
                starts = draws.state(many), draws.state(len(other))
                goals = [
                    draws.state(len(panel)) if draws.below(2)
                    else run(panel, start, draws.row(len(panel), 3))
                    for panel, start in zip((one, other), starts)
                ]
                start, goal = joined(many, *starts), joined(many, *goals)
                ways = [shortest_way(*told) for told in zip((one, other), starts, goals)]
                self.same(can_reach(both, start, goal), None not in ways)
                found = find_certificate(both, start, goal)
                self.same(found[0] == "row", None not in ways)
                self.same(certificate_holds(both, start, goal, found), True)
                way = shortest_way(both, start, goal)
                if None in ways:
                    self.same(way, None)
                else:
                    self.same(len(way), len(ways[0]) + len(ways[1]))
                    self.same([len(row) for row in parts(many, way)], [len(row) for row in ways])

    def test_reachable_states_and_sources(self):
        for one, other, draws in self.cases(228):
            both, many = beside(one, other), len(one)
            states = draws.state(many), draws.state(len(other))
            state = joined(many, *states)
            for ask in (reachable_states, sources_of):
                pairs = itertools.product(ask(one, states[0]), ask(other, states[1]))
                wanted = sorted(joined(many, *pair) for pair in pairs)
                self.same(ask(both, state), tuple(wanted))

    def test_resets(self):
        for one, other, draws in self.cases(229):
            both, many = beside(one, other), len(one)
            self.same(len(shortest_reset(both)),
                      len(shortest_reset(one)) + len(shortest_reset(other)))
            goals = [run(panel, (), draws.row(len(panel), 4)) for panel in (one, other)]
            row = reset_to(both, joined(many, *goals))
            alone = reset_to(one, goals[0]), reset_to(other, goals[1])
            self.same(row is None, None in alone)
            states = sorted({draws.state(len(both)) for _ in range(5)})
            row = draws.row(len(both), 4)
            wanted = {run(both, state, row) for state in states}
            self.same(states_after(both, tuple(states), row), tuple(sorted(wanted)))

    def test_all_pairs_of_small_panels(self):
        panels = [panel for panel in small_panels() if len(panel) < 3]
        for one, other in itertools.product(panels + [P], repeat=2):
            both, many = beside(one, other), len(one)
            for start in itertools.product(all_states(many), all_states(len(other))):
                reached = reachable_states(one, start[0]), reachable_states(other, start[1])
                found = reachable_states(both, joined(many, *start))
                self.same(len(found), len(reached[0]) * len(reached[1]))

    def test_four_panels(self):
        for panels in zip(*[iter(drawn_panels(230, (2,), each=4))] * 4):
            both = beside(*panels)
            self.same(len(shortest_reset(both)), sum(len(shortest_reset(p)) for p in panels))
            many = 1
            for panel in panels:
                many *= len(reachable_states(panel, ()))
            self.same(len(reachable_states(both, ())), many)
