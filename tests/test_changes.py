"""Section 5: panels made from other panels."""

import itertools
import unittest

from pressrelease.changes import beside, linked, renamed, unlinked, without_button
from pressrelease.errors import LastButton, TooLarge
from pressrelease.panels import is_panel
from tests.support import (
    ALONE, P, Q, Checks, Draws, bare_panel, drawn_panels, full_panel, round_panel, sample_panels,
    small_panels,
)

PANELS = sample_panels() + drawn_panels(201, range(2, 11), each=1)


def links_of(panel):
    return {(one, other) for one, row in enumerate(panel) for other in row}


def panel_of(many, links):
    return tuple(
        tuple(other for other in range(many) if (one, other) in links) for one in range(many)
    )


def shuffled(draws, many):
    names = list(range(many))
    for at in range(many):
        to = draws.below(many)
        names[at], names[to] = names[to], names[at]
    return tuple(names)


class LinkTest(Checks, unittest.TestCase):
    def test_example(self):
        self.example("""
            >>> from pressrelease.changes import linked, unlinked
            >>> P = ((1,), (0,), (0, 1))
            >>> [linked(P, 0, 2), unlinked(P, 2, 0)]
            [((1, 2), (0,), (0, 1)), ((1,), (0,), (1,))]
        """)

    def right_pair(self, panel, one, other):
        many, links = len(panel), links_of(panel)
        more = self.call(linked, panel, one, other)
        less = self.call(unlinked, panel, one, other)
        self.same(more, panel_of(many, links | {(one, other)}), (panel, one, other))
        self.same(less, panel_of(many, links - {(one, other)}), (panel, one, other))
        self.same(more == panel, other in panel[one])
        self.same(less == panel, other not in panel[one])
        self.same(is_panel(more), True)
        self.same(is_panel(less), True)
        self.same(linked(more, one, other), more)
        self.same(unlinked(more, one, other), less)
        self.same(linked(less, one, other), more)
        self.same(unlinked(less, one, other), less)

    def test_all_pairs(self):
        for panel in PANELS + small_panels():
            for one, other in itertools.permutations(range(len(panel)), 2):
                self.right_pair(panel, one, other)

    def test_from_no_link_to_all_and_back(self):
        for many in range(2, 11):
            panel = bare_panel(many)
            pairs = list(itertools.permutations(range(many), 2))[::-1]
            for one, other in pairs:
                panel = linked(panel, one, other)
            self.same(panel, full_panel(many))
            for one, other in pairs[1::2] + pairs[::2]:
                panel = unlinked(panel, one, other)
            self.same(panel, bare_panel(many))


class RenamedTest(Checks, unittest.TestCase):
    def test_example(self):
        self.example("""
            >>> from pressrelease.changes import renamed
            >>> Q = ((1,), (2,), (0,), (0,))
            >>> renamed(Q, (1, 2, 3, 0))
            ((1,), (2,), (3,), (1,))
        """)

    def right_names(self, panel, names):
        many = len(panel)
        links = {(names[one], names[other]) for one, other in links_of(panel)}
        after = self.call(renamed, panel, names)
        self.same(after, panel_of(many, links), (panel, names))
        self.same(is_panel(after), True)
        back = tuple(names.index(button) for button in range(many))
        self.same(self.call(renamed, after, back), panel)

    def test_all_names_of_small_panels(self):
        for panel in small_panels() + [Q, round_panel(4)] + drawn_panels(202, (4,), each=1):
            for names in itertools.permutations(range(len(panel))):
                self.right_names(panel, names)

    def test_larger_panels(self):
        draws = Draws(203)
        for panel in PANELS:
            many = len(panel)
            same = tuple(range(many))
            self.same(renamed(panel, same), panel)
            turned = same[1:] + same[:1]
            for names in (same, same[::-1], turned, shuffled(draws, many), shuffled(draws, many)):
                self.right_names(panel, names)

    def test_two_names_one_after_the_other(self):
        draws = Draws(204)
        for panel in PANELS:
            many = len(panel)
            one, two = shuffled(draws, many), shuffled(draws, many)
            both = tuple(two[one[button]] for button in range(many))
            self.same(renamed(renamed(panel, one), two), renamed(panel, both))

    def test_where_all_names_are_alike(self):
        for many in range(1, 11):
            names = tuple(range(many))[::-1]
            for panel in (bare_panel(many), full_panel(many)):
                self.same(self.call(renamed, panel, names), panel)


class WithoutButtonTest(Checks, unittest.TestCase):
    def test_example(self):
        self.example("""
            >>> from pressrelease.changes import without_button
            >>> Q = ((1,), (2,), (0,), (0,))
            >>> without_button(Q, 1)
            ((), (0,), (0,))
        """)

    def test_all_buttons(self):
        for panel in PANELS + small_panels():
            many = len(panel)
            for button in range(many):
                if many == 1:
                    continue
                left = [other for other in range(many) if other != button]
                links = {
                    (left.index(one), left.index(other))
                    for one, other in links_of(panel) if button not in (one, other)
                }
                after = self.call(without_button, panel, button)
                self.same(after, panel_of(many - 1, links), (panel, button))
                self.same(is_panel(after), True)

    def test_down_to_one(self):
        for panel in PANELS:
            while len(panel) > 1:
                panel = without_button(panel, len(panel) // 2)
            self.same(panel, ALONE)

    def test_last_button(self):
        self.fails(LastButton(), without_button, ALONE, 0)
        self.same(self.call(without_button, ((1,), (0,)), 0), ALONE)
        self.same(self.call(without_button, ((1,), (0,)), 1), ALONE)


class BesideTest(Checks, unittest.TestCase):
    def test_example(self):
        self.example("""
            >>> from pressrelease.changes import beside
            >>> P = ((1,), (0,), (0, 1))
            >>> beside(P, ((),), ((1,), ()))
            ((1,), (0,), (0, 1), (), (5,), ())
        """)

    def right_panels(self, *panels):
        links, first = set(), 0
        for panel in panels:
            links |= {(first + one, first + other) for one, other in links_of(panel)}
            first += len(panel)
        if first > 10:
            self.fails(TooLarge(10), beside, *panels)
            return
        after = self.call(beside, *panels)
        self.same(after, panel_of(first, links), panels)
        self.same(is_panel(after), True)

    def test_one_panel(self):
        for panel in PANELS + small_panels():
            self.same(self.call(beside, panel), panel)

    def test_two_panels(self):
        for one, other in itertools.product(PANELS, repeat=2):
            if (len(one) + len(other)) % 3 == 1 or len(one) + len(other) in (9, 10, 11):
                self.right_panels(one, other)

    def test_three_and_four_panels(self):
        draws = Draws(205)
        for _ in range(120):
            panels = [draws.panel(1 + draws.below(4), 1 + draws.below(9)) for _ in range(4)]
            self.right_panels(*panels)
            self.right_panels(*panels[:3])

    def test_ten_panels(self):
        self.same(self.call(beside, *[ALONE] * 10), bare_panel(10))
        self.right_panels(*[ALONE] * 8, round_panel(2))
        self.right_panels(*[round_panel(2)] * 5)

    def test_just_ten_buttons(self):
        for many in range(1, 10):
            self.right_panels(full_panel(many), round_panel(10 - many))
        self.right_panels(P, Q, P)

    def test_eleven_buttons_and_more(self):
        for many in range(1, 11):
            self.fails(TooLarge(10), beside, full_panel(many), round_panel(11 - many))
            self.fails(TooLarge(10), beside, full_panel(10), bare_panel(many))
            self.fails(TooLarge(10), beside, bare_panel(many), ALONE, full_panel(10))
        self.fails(TooLarge(10), beside, *[ALONE] * 11)
        self.fails(TooLarge(10), beside, *[P] * 4)
        self.fails(TooLarge(10), beside, *[full_panel(10)] * 30)

    def test_in_any_grouping(self):
        draws = Draws(206)
        for _ in range(60):
            one, two, three = (draws.panel(1 + draws.below(3), 4) for _ in range(3))
            self.same(beside(beside(one, two), three), beside(one, two, three))
            self.same(beside(one, beside(two, three)), beside(one, two, three))
