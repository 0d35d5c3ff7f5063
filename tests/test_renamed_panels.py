"""Section 5: what points 5 to 10 say of a panel holds for it under other names."""

import itertools
import unittest

from pressrelease.changes import renamed
from pressrelease.effects import (
    all_effects, count_effects, effect_of, find_difference, plain_row, row_for, shortest_row,
)
from pressrelease.panels import press_button, releasers_of, run
from pressrelease.reaching import (
    can_reach, certificate_holds, find_certificate, find_round, held_buttons, reachable_states,
    shortest_way, sources_of,
)
from pressrelease.resets import is_reset, reset_to, shortest_reset, states_after
from tests.support import P, Q, Checks, Draws, all_states, drawn_panels, sample_panels, small_panels


class Names:
    """Other names for the buttons, and what they make of states, rows and the rest."""

    def __init__(self, names):
        self.names = names

    def row(self, row):
        return tuple(self.names[button] for button in row)

    def state(self, state):
        return tuple(sorted(self.row(state)))

    def states(self, states):
        return tuple(sorted(self.state(state) for state in states))

    def effect(self, effect):
        return tuple(effect[self.names.index(button)] for button in range(len(effect)))

    def certificate(self, found):
        if found[0] == "stuck":
            return ("stuck", self.names[found[1]], self.state(found[2]))
        return (found[0], self.row(found[1]))


def some_names(draws, many):
    same = tuple(range(many))
    cut = draws.below(many)
    return [same, same[::-1], same[cut:] + same[:cut], same[:cut][::-1] + same[cut:][::-1]]


class RenamedPanelTest(Checks, unittest.TestCase):
    def cases(self, seed, sizes=range(1, 11), each=1):
        draws = Draws(seed)
        for panel in drawn_panels(seed, sizes, each) + [P, Q]:
            for names in some_names(draws, len(panel)):
                yield panel, renamed(panel, names), Names(names), draws

    def test_presses(self):
        for panel, other, names, draws in self.cases(211):
            many = len(panel)
            state, row = draws.state(many), draws.row(many, 1 + draws.below(60))
            self.same(run(other, names.state(state), names.row(row)),
                      names.state(run(panel, state, row)))
            for button in range(many):
                named = names.names[button]
                self.same(press_button(other, names.state(state), named),
                          names.state(press_button(panel, state, button)))
                self.same(releasers_of(other, named), names.state(releasers_of(panel, button)))

    def test_effects_of_rows(self):
        for panel, other, names, draws in self.cases(212):
            many = len(panel)
            row, second = (draws.row(many, draws.below(9)) for _ in range(2))
            effect = effect_of(panel, row)
            self.same(effect_of(other, names.row(row)), names.effect(effect))
            self.same(plain_row(names.row(row)), names.row(plain_row(row)))
            self.same(find_difference(other, names.row(row), names.row(second)) is None,
                      find_difference(panel, row, second) is None)
            short = shortest_row(other, names.row(row))
            self.same(len(short), len(shortest_row(panel, row)))
            self.same(effect_of(other, short), names.effect(effect))
            back = row_for(other, names.effect(effect))
            self.same(effect_of(other, back), names.effect(effect))

    def test_all_effects(self):
        for panel, other, names, draws in self.cases(213, range(1, 6)):
            self.same(count_effects(other), count_effects(panel))
            named = sorted(names.effect(effect) for effect in all_effects(panel))
            self.same(all_effects(other), tuple(named))

    def test_words_that_are_no_effect(self):
        for panel, other, names, draws in self.cases(214):
            words = tuple(("on", "off", "same")[draws.below(3)] for _ in panel)
            self.same(row_for(other, names.effect(words)) is None, row_for(panel, words) is None)

    def test_rounds_and_held_buttons(self):
        for panel, other, names, draws in self.cases(215):
            for state in ((), tuple(range(len(panel))), draws.state(len(panel))):
                self.same(held_buttons(other, names.state(state)),
                          names.state(held_buttons(panel, state)))
                self.same(find_round(other, names.state(state)) is None,
                          find_round(panel, state) is None)

    def test_ways_and_certificates(self):
        for panel, other, names, draws in self.cases(216):
            many = len(panel)
            start = draws.state(many)
            for goal in (draws.state(many), run(panel, start, draws.row(many, 4))):
                ends = names.state(start), names.state(goal)
                self.same(can_reach(other, *ends), can_reach(panel, start, goal))
                found = find_certificate(panel, start, goal)
                self.same(certificate_holds(other, *ends, names.certificate(found)), True)
                self.same(find_certificate(other, *ends)[0] == "row", found[0] == "row")
                way = shortest_way(panel, start, goal)
                named = shortest_way(other, *ends)
                self.same(way is None, named is None)
                if way is not None:
                    self.same(len(named), len(way))
                    self.same(run(other, ends[0], names.row(way)), ends[1])

    def test_reachable_states_and_sources(self):
        for panel, other, names, draws in self.cases(217):
            state = draws.state(len(panel))
            self.same(reachable_states(other, names.state(state)),
                      names.states(reachable_states(panel, state)))
            self.same(sources_of(other, names.state(state)),
                      names.states(sources_of(panel, state)))

    def test_resets(self):
        for panel, other, names, draws in self.cases(218):
            many = len(panel)
            row, goal = draws.row(many, 1 + draws.below(4)), draws.state(many)
            self.same(is_reset(other, names.row(row)), is_reset(panel, row))
            self.same(len(shortest_reset(other)), len(shortest_reset(panel)))
            self.same(is_reset(other, names.row(shortest_reset(panel))), True)
            found = reset_to(other, names.state(goal))
            self.same(found is None, reset_to(panel, goal) is None)
            if found is not None:
                self.same(run(other, (), found), names.state(goal))
            states = tuple(sorted({draws.state(many) for _ in range(5)}))
            self.same(states_after(other, names.states(states), names.row(row)),
                      names.states(states_after(panel, states, row)))

    def test_all_of_small_panels(self):
        for panel in small_panels() + [Q]:
            states = all_states(len(panel))
            for order in itertools.permutations(range(len(panel))):
                names, other = Names(order), renamed(panel, order)
                for start in states[::2]:
                    self.same(reachable_states(other, names.state(start)),
                              names.states(reachable_states(panel, start)))
                for goal in states:
                    self.same(sources_of(other, names.state(goal)),
                              names.states(sources_of(panel, goal)))

    def test_other_names_that_give_the_same_panel(self):
        for panel in sample_panels(6):
            for order in itertools.islice(itertools.permutations(range(len(panel))), 0, None, 7):
                if renamed(panel, order) == panel:
                    names = Names(order)
                    for state in all_states(len(panel)):
                        self.same(held_buttons(panel, names.state(state)),
                                  names.state(held_buttons(panel, state)))
