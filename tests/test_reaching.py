"""Point 9: which states can be reached from which, and the ways there."""

import unittest

from pressrelease.reaching import (
    can_reach, certificate_holds, find_certificate, held_buttons, reachable_states, shortest_way,
    sources_of,
)
from tests.support import (
    ALONE, P, Q, Checks, Draws, all_states, bare_panel, down_panel, drawn_panels, full_panel,
    mixed_panel, plain_rows, pressed, round_panel, sample_panels, sample_states, small_panels,
    ways_by_presses,
)


def state_after(panel, state, row):
    for button in row:
        state = pressed(panel, state, button)
    return state


class ExamplesTest(Checks, unittest.TestCase):
    def test_can_reach(self):
        self.example("""
            >>> from pressrelease.reaching import can_reach
            >>> P = ((1,), (0,), (0, 1))
            >>> [can_reach(P, (1,), (0, 2)), can_reach(P, (), (0, 1)), can_reach(P, (0, 1), (0, 1)), can_reach(P, (0, 1, 2), (0, 1))]
            [True, False, True, False]
        """)

    def test_find_certificate(self):
        self.example("""
            >>> from pressrelease.reaching import find_certificate
            >>> P = ((1,), (0,), (0, 1))
            >>> [find_certificate(P, (1,), (0, 1))[0], find_certificate(P, (0, 1, 2), (0, 1))]
            ['round', ('stuck', 2, (2,))]
        """)

    def test_shortest_way(self):
        self.example("""
            >>> from pressrelease.reaching import shortest_way
            >>> P = ((1,), (0,), (0, 1))
            >>> [shortest_way(P, (1,), (0, 2)), shortest_way(P, (0,), (0,)), shortest_way(P, (), (0, 1))]
            [(2, 0), (), None]
        """)

    def test_reachable_states(self):
        self.example("""
            >>> from pressrelease.reaching import reachable_states
            >>> P = ((1,), (0,), (0, 1))
            >>> reachable_states(P, ())
            ((), (0,), (0, 2), (1,), (1, 2), (2,))
        """)

    def test_sources_of(self):
        self.example("""
            >>> from pressrelease.reaching import sources_of
            >>> P = ((1,), (0,), (0, 1))
            >>> [sources_of(P, (0, 1)), len(sources_of(P, (2,)))]
            [((0, 1),), 8]
        """)


class SearchTest(Checks, unittest.TestCase):
    """All answers together, compared with a search by presses."""

    def right_pair(self, panel, start, goal, way):
        about = (panel, start, goal)
        self.same(self.call(can_reach, *about), way is not None, about)
        self.same(self.call(shortest_way, *about), way, about)
        certificate = self.call(find_certificate, *about)
        self.right_certificate(panel, start, goal, way, certificate)
        self.same(self.call(certificate_holds, *about, certificate), True, about)

    def right_certificate(self, panel, start, goal, way, certificate):
        about = (panel, start, goal, certificate)
        self.assertIsInstance(certificate, tuple, about)
        if way is not None:
            kind, row = certificate
            self.same(kind, "row", about)
            self.assertIsInstance(row, tuple)
            self.no_button_twice(row)
            self.same(state_after(panel, start, row), goal, about)
        elif certificate[0] == "round":
            kind, walk = certificate
            self.assertIsInstance(walk, tuple)
            self.assertLessEqual(set(walk), set(goal), about)
            self.assertNotIn(walk[0], start, about)
            self.assertIn(walk[-1], walk[:-1], about)
            for before, after in zip(walk, walk[1:]):
                self.assertIn(after, panel[before], about)
        else:
            kind, button, members = certificate
            self.same(kind, "stuck", about)
            self.assertIn(button, start, about)
            self.assertIn(button, members, about)
            self.ascending(members)
            self.same(set(members) & set(goal), set(), about)

    def right_panel(self, panel):
        states = all_states(len(panel))
        ways = {start: ways_by_presses(panel, start) for start in states}
        for start in states:
            self.same(self.call(reachable_states, panel, start), tuple(sorted(ways[start])))
            for goal in states:
                self.right_pair(panel, start, goal, ways[start].get(goal))
        for goal in states:
            wanted = tuple(start for start in states if goal in ways[start])
            self.same(self.call(sources_of, panel, goal), wanted, (panel, goal))

    def test_one_and_two_buttons(self):
        panels = [panel for panel in small_panels() if len(panel) < 3]
        self.assertEqual(len(panels), 5)
        for panel in panels:
            self.right_panel(panel)

    def test_three_buttons(self):
        for panel in small_panels():
            if len(panel) == 3:
                self.right_panel(panel)

    def test_four_buttons(self):
        for panel in drawn_panels(101, (4,), each=2) + [Q, round_panel(4), down_panel(4)]:
            self.right_panel(panel)

    def test_five_buttons(self):
        for panel in drawn_panels(102, (5,), each=1):
            self.right_panel(panel)

    def test_larger_panels(self):
        draws = Draws(103)
        for panel in sample_panels(9)[::2] + drawn_panels(104, range(6, 11), each=1):
            many = len(panel)
            for start in sample_states(many)[:2] + [draws.state(many)]:
                ways = ways_by_presses(panel, start)
                self.same(reachable_states(panel, start), tuple(sorted(ways)))
                some = sorted(ways)[:: len(ways) // 4 + 1]
                for goal in sample_states(many)[:3] + some + [start, draws.state(many)]:
                    self.right_pair(panel, start, goal, ways.get(goal))

    def test_sources_on_larger_panels(self):
        draws = Draws(105)
        for panel in drawn_panels(106, (6, 7), each=1):
            many = len(panel)
            ways = {start: ways_by_presses(panel, start) for start in all_states(many)}
            for goal in sample_states(many) + [draws.state(many) for _ in range(8)]:
                wanted = tuple(start for start in ways if goal in ways[start])
                self.same(self.call(sources_of, panel, goal), wanted, (panel, goal))


class WaysTest(Checks, unittest.TestCase):
    def test_start_is_goal(self):
        for panel in sample_panels():
            for state in sample_states(len(panel)):
                self.same(self.call(shortest_way, panel, state, state), ())
                self.same(self.call(can_reach, panel, state, state), True)
                self.same(self.call(find_certificate, panel, state, state)[0], "row")
                self.assertIn(state, reachable_states(panel, state))
                self.assertIn(state, sources_of(panel, state))

    def test_listing_of_rows_without_repeats(self):
        panels = drawn_panels(107, (4,), each=2) + [P, Q, mixed_panel(4)]
        for panel in panels:
            rows = plain_rows(len(panel))
            for start in all_states(len(panel)):
                first = {}
                for row in rows:
                    first.setdefault(state_after(panel, start, row), row)
                self.same(reachable_states(panel, start), tuple(sorted(first)))
                for goal in all_states(len(panel)):
                    self.same(shortest_way(panel, start, goal), first.get(goal))

    def test_smallest_of_several(self):
        self.same(self.call(shortest_way, bare_panel(4), (1,), (0, 1, 2, 3)), (0, 2, 3))
        # 2 or 3 releases 1, and either of them is released by 0.
        self.same(self.call(shortest_way, ((2, 3), (), (1,), (1,)), (1,), (0,)), (2, 0))
        self.same(self.call(shortest_way, ((), (0,), (0,)), (0, 1, 2), (1, 2)), (1,))
        # 2 releases 1, so it must be pressed first.
        self.same(self.call(shortest_way, ((), (), (1,)), (), (0, 1, 2)), (0, 2, 1))

    def test_goal_with_a_round(self):
        goal = (0, 1, 2)
        self.same(self.call(can_reach, Q, goal, goal), True)
        self.same(self.call(can_reach, Q, (0, 1, 2, 3), goal), False)
        self.same(self.call(find_certificate, Q, (0, 1, 2, 3), goal), ("stuck", 3, (3,)))
        for start in ((), (0,), (1, 2), (0, 1), (0, 2)):
            self.same(self.call(can_reach, Q, start, goal), False)
            self.same(self.call(find_certificate, Q, start, goal)[0], "round")
            self.same(self.call(shortest_way, Q, start, goal), None)
        # A button beside the round can still be pressed, and releases others.
        panel = ((1,), (0,), (3,), (), (0,))
        self.same(self.call(shortest_way, panel, (0, 1, 3), (0, 1, 2)), (2,))
        wanted = ((0, 1), (0, 1, 2), (0, 1, 2, 3), (0, 1, 3))
        self.same(self.call(sources_of, panel, (0, 1, 2)), wanted)

    def test_second_reason(self):
        # Nothing releases 0.
        self.same(self.call(find_certificate, bare_panel(2), (0,), ())[:2], ("stuck", 0))
        # Only 1 releases 0, and nothing releases 1.
        panel = ((), (0,), ())
        self.same(self.call(can_reach, panel, (0,), (2,)), False)
        self.same(self.call(can_reach, panel, (0,), (1, 2)), True)
        self.same(self.call(find_certificate, panel, (0,), (2,)), ("stuck", 0, (0, 1)))
        # 3 is released by 2, which would also release 0, and 0 is on a round.
        panel = ((1,), (0,), (0, 3), (), (2,))
        self.same(self.call(can_reach, panel, (0, 1, 3), (0, 1, 4)), False)
        self.same(self.call(can_reach, panel, (0, 1, 2), (0, 1, 4)), True)
        self.same(self.call(find_certificate, panel, (0, 1, 3), (0, 1, 4)), ("stuck", 3, (3,)))
        # Without the link from 2 to 0 it works.
        panel = ((1,), (0,), (3,), (), (2,))
        self.same(self.call(shortest_way, panel, (0, 1, 3), (0, 1, 4)), (2, 4))

    def test_empty_goal(self):
        for panel in sample_panels():
            self.same(self.call(sources_of, panel, ()), ((),))
            for button in range(len(panel)):
                self.same(self.call(can_reach, panel, (button,), ()), False)
                self.same(self.call(find_certificate, panel, (button,), ())[:2], ("stuck", button))

    def test_one_button(self):
        self.same(self.call(reachable_states, ALONE, ()), ((), (0,)))
        self.same(self.call(reachable_states, ALONE, (0,)), ((0,),))
        self.same(self.call(sources_of, ALONE, (0,)), ((), (0,)))

    def test_held_in_every_way(self):
        # Whatever is held in the goal must be latched before, and is not pressed.
        for panel in drawn_panels(108, (5, 8), each=1):
            for goal in all_states(len(panel))[::7]:
                held = held_buttons(panel, goal)
                for start in sources_of(panel, goal)[::5]:
                    self.assertLessEqual(set(held), set(start))
                    row = find_certificate(panel, start, goal)[1]
                    self.assertFalse(set(row) & set(held))


class TenButtonsTest(Checks, unittest.TestCase):
    def test_ten_buttons(self):
        everything = tuple(range(10))
        panels = [bare_panel(10), full_panel(10), round_panel(10), mixed_panel(10), down_panel(10)]
        for panel in panels + drawn_panels(109, (10,), each=1):
            for start in ((), everything, everything[::2]):
                ways = ways_by_presses(panel, start)
                self.same(self.soon(reachable_states, panel, start), tuple(sorted(ways)))
                goals = [(), everything, everything[1::2], (9,), max(ways)]
                for goal in goals:
                    way = ways.get(goal)
                    self.same(self.soon(can_reach, panel, start, goal), way is not None)
                    self.same(self.soon(shortest_way, panel, start, goal), way)
                    certificate = self.soon(find_certificate, panel, start, goal)
                    self.same(certificate[0] == "row", way is not None)
                    self.assertTrue(certificate_holds(panel, start, goal, certificate))
                    sources = self.soon(sources_of, panel, goal)
                    self.ascending(sources)
                    self.same(start in sources, way is not None)

    def test_by_hand(self):
        everything = tuple(range(10))
        self.same(shortest_way(bare_panel(10), (), everything), everything)
        self.same(shortest_way(down_panel(10), (), everything), everything[::-1])
        self.same(shortest_way(full_panel(10), everything, (4,)), (4,))
        self.same(len(reachable_states(bare_panel(10), ())), 1024)
        self.same(len(reachable_states(full_panel(10), ())), 11)
        self.same(len(reachable_states(round_panel(10), everything)), 1023)
        self.same(len(sources_of(full_panel(10), (4,))), 1024)
        self.same(len(sources_of(bare_panel(10), everything)), 1024)
        self.same(sources_of(full_panel(10), everything), (everything,))
