"""Point 12: what a desk is asked: state, way_to, walk, edits, read, len, str, ==."""

import itertools
import unittest

from pressrelease.desks import Desk, Guess, GuessDesk
from pressrelease.errors import BadState, BadText, NoVersion
from pressrelease.reaching import shortest_way
from pressrelease.texts import panel_text
from tests.desk_support import DeskChecks, do, drawn_edits, picture, told_versions
from tests.support import (
    ALONE, HUGE, NO_NUMBERS, P, Q, Draws, all_states, bare_panel, drawn_panels, full_panel,
    no_buttons, pressed, sample_panels, sample_states, small_panels, ways_by_presses,
)

DESKS = (Desk, GuessDesk)


def no_versions(latest):
    """Values that are not versions of a desk with so many edits."""
    numbers = (-1, -latest - 1, latest + 1, latest + 2, 60 + latest, HUGE, -HUGE)
    return numbers + tuple(value for value in NO_NUMBERS if value is not None)


def no_states(many):
    """Values that are not states of a panel with that many buttons."""
    values = [value for value in no_buttons(many) if value not in ((), (0,)) or value == [0]]
    values += [(value,) for value in no_buttons(many)] + [(0, value) for value in (0, True, None)]
    values += [tuple(range(many + 1)), list(range(many)), (0,) * 61, [()]]
    if many > 1:
        values += [(1, 0), (0, 1, 1), (0, 0, 1), [0, 1], tuple(range(many))[::-1]]
    return values


class StateTest(DeskChecks, unittest.TestCase):
    def test_example(self):
        self.example("""
            >>> from pressrelease.desks import Desk
            >>> desk = Desk(((),), ())
            >>> [desk.press(0), desk.state(), desk.state(version=0)]
            [1, (((),), (0,)), (((),), ())]
        """)

    def test_each_version(self):
        draws = Draws(251)
        for panel in [P, ALONE, full_panel(10)] + drawn_panels(252, (3, 6), each=1):
            state = draws.state(len(panel))
            edits = drawn_edits(draws, panel, 60)
            versions = [told[:2] for told in told_versions(panel, state, edits)]
            for make in DESKS:
                desk = make(panel, state)
                for number, edit in enumerate(edits, 1):
                    do(desk, edit)
                    self.same(desk.state(), versions[number])
                    self.same(desk.state(version=None), versions[number])
                    for version in range(0, number + 1, 7):
                        self.same(desk.state(version=version), versions[version])
                for version in range(61):
                    self.same(desk.state(version=version), versions[version])
                    self.same(desk.state(version=version), versions[version])

    def test_values_that_are_no_version(self):
        for make in DESKS:
            desk = make(P, (1,))
            for latest in range(4):
                for value in no_versions(latest):
                    self.no_version(desk, value)
                for version in range(latest + 1):
                    self.same(desk.state(version=version)[0], P)
                desk.press(latest % 3)

    def test_true_is_not_version_one(self):
        for make in DESKS:
            desk = make(P, (1,))
            desk.press(0)
            desk.press(2)
            for _ in range(2):
                self.same(desk.state(version=1), (P, (0,)))
                self.no_version(desk, True)
                self.same(desk.state(version=0), (P, (1,)))
                self.no_version(desk, False)

    def test_version_that_was_undone(self):
        for make in DESKS:
            desk = make(P, (1,))
            desk.press(0)
            desk.press(2)
            desk.undo()
            self.no_version(desk, 2)
            desk.unlink(0, 1)
            self.same(desk.state(version=2), (((), (0,), (0, 1)), (0,)))
            self.same(desk.state(version=1), (P, (0,)))


class WayTest(DeskChecks, unittest.TestCase):
    def test_example(self):
        self.example("""
            >>> from pressrelease.desks import Desk
            >>> P = ((1,), (0,), (0, 1))
            >>> [Desk(P, (1,)).way_to((0, 2)), Desk(P, ()).way_to((0, 1))]
            [(2, 0), None]
        """)

    def test_all_goals(self):
        for panel in small_panels() + drawn_panels(253, (4, 5), each=1):
            states = all_states(len(panel))
            for start in states[::3]:
                ways = ways_by_presses(panel, start)
                for make in DESKS:
                    desk = make(panel, start)
                    for goal in states:
                        self.same(desk.way_to(goal), ways.get(goal))

    def test_larger_panels(self):
        draws = Draws(254)
        for panel in drawn_panels(255, (8, 10), each=1):
            desk = Desk(panel, draws.state(len(panel)))
            ways = ways_by_presses(panel, desk.latched)
            before = picture(desk)
            for goal in [draws.state(len(panel)) for _ in range(6)]:
                self.same(self.call(desk.way_to, goal), ways.get(goal))
            self.same(picture(desk), before)

    def test_each_version(self):
        draws = Draws(256)
        for panel in [P, Q, ALONE] + drawn_panels(257, (4, 5), each=1):
            state = draws.state(len(panel))
            edits = drawn_edits(draws, panel, 12)
            versions = told_versions(panel, state, edits)
            goals = [draws.state(len(panel)) for _ in range(4)]
            for make in DESKS:
                desk = make(panel, state)
                desk.attempt(edits)
                for version, (then, latched, known) in enumerate(versions):
                    for goal in goals + [latched]:
                        self.same(desk.way_to(goal, version=version),
                                  shortest_way(then, latched, goal))
                for goal in goals:
                    wanted = shortest_way(desk.panel, desk.latched, goal)
                    self.same(desk.way_to(goal), wanted)
                    self.same(desk.way_to(goal, version=None), wanted)

    def test_values_that_are_no_state(self):
        for make in DESKS:
            for panel in (ALONE, P, full_panel(10)):
                desk = make(panel, ())
                desk.press(0)
                for value in no_states(len(panel)):
                    self.refused(desk, BadState(value), desk.way_to, value)
                    for version in (None, 0, 1):
                        self.fails(BadState(value),
                                   lambda goal: desk.way_to(goal, version=version), value)

    def test_version_comes_before_state(self):
        for make in DESKS:
            desk = make(P, (1,))
            desk.press(0)
            for value in no_versions(1):
                for goal in ((), (0,), None, (3,), [0], True):
                    self.fails(NoVersion(value),
                               lambda goal, version: desk.way_to(goal, version=version),
                               goal, value)


class WalkTest(DeskChecks, unittest.TestCase):
    def test_example(self):
        self.example("""
            >>> from pressrelease.desks import Desk
            >>> P = ((1,), (0,), (0, 1))
            >>> list(Desk(P, (1,)).walk((0, 2)))
            [(2, (2,)), (0, (0, 2))]
        """)

    def told_walk(self, desk, goal):
        way, latched = ways_by_presses(desk.panel, desk.latched).get(goal), desk.latched
        steps = []
        for button in way or ():
            latched = pressed(desk.panel, latched, button)
            steps.append((button, latched))
        return steps

    def test_all_goals(self):
        draws = Draws(258)
        for panel in small_panels() + drawn_panels(259, (4, 6), each=1):
            for make in DESKS:
                desk = make(panel, draws.state(len(panel)))
                desk.press(0)
                for goal in all_states(len(panel)):
                    wanted = self.told_walk(desk, goal)
                    self.same(list(desk.walk(goal)), wanted)
                    self.same(list(desk.walk(goal)), wanted)

    def test_does_not_change_the_desk(self):
        for make in DESKS:
            desk = make(bare_panel(5), (1,))
            desk.press(0)
            before = picture(desk)
            for step in desk.walk((0, 1, 2, 3, 4)):
                self.same(picture(desk), before, step)
            self.same(picture(desk), before)

    def test_no_way_and_no_press(self):
        for make in DESKS:
            self.same(list(make(P, ()).walk((0, 1))), [])
            self.same(list(make(P, (1, 2)).walk((1, 2))), [])

    def test_stopped_early_and_twice_at_a_time(self):
        for make in DESKS:
            desk = make(bare_panel(4), ())
            wanted = [(0, (0,)), (1, (0, 1)), (2, (0, 1, 2)), (3, (0, 1, 2, 3))]
            for many in range(5):
                walk = desk.walk((0, 1, 2, 3))
                self.same(list(itertools.islice(walk, many)), wanted[:many])
            one, other = desk.walk((0, 1, 2, 3)), desk.walk((0, 1, 2, 3))
            self.same(next(one), wanted[0])
            self.same(next(one), wanted[1])
            self.same(next(other), wanted[0])
            self.same(list(one), wanted[2:])
            self.same(list(other), wanted[1:])
            self.same(list(one), [])
            self.same(desk.press(3), 1)
            self.same(list(desk.walk((0, 3))), [(0, (0, 3))])

    def test_one_after_another(self):
        walk = Desk(P, (1,)).walk((0, 2))
        self.assertIs(iter(walk), walk)

    def test_values_that_are_no_state(self):
        for make in DESKS:
            for panel in (ALONE, P, full_panel(10)):
                desk = make(panel, (0,))
                for value in no_states(len(panel)):
                    self.refused(desk, BadState(value), lambda goal: list(desk.walk(goal)), value)


class EditsTest(DeskChecks, unittest.TestCase):
    def test_example(self):
        self.example("""
            >>> from pressrelease.desks import Desk
            >>> P = ((1,), (0,), (0, 1))
            >>> desk = Desk(P, ())
            >>> [desk.press(2), desk.edits()]
            [1, (('press', 2),)]
        """)

    def test_edits_that_stand(self):
        for make in DESKS:
            desk = make(P, ())
            self.same(desk.edits(), ())
            desk.press(2)
            desk.link(0, 2)
            early = desk.edits()
            desk.attempt([("unlink", 2, 1), ("press", 0)])
            self.same(early, (("press", 2), ("link", 0, 2)))
            self.same(desk.edits(), early + (("unlink", 2, 1), ("press", 0)))
            desk.undo()
            desk.undo()
            self.same(desk.edits(), early)
            self.same(desk.edits(), early)

    def test_edits_lead_from_the_first_version_to_the_present_one(self):
        draws = Draws(260)
        for panel in [P, Q] + drawn_panels(261, (5,), each=1):
            desk = Desk(panel, ())
            for edit in drawn_edits(draws, panel, 60):
                do(desk, edit)
            again = Desk(*desk.state(version=0))
            for at in (0, 20, 40):
                self.same(again.attempt(desk.edits()[at:at + 20]), 20)
            self.same(picture(again), picture(desk))


class ReadTest(DeskChecks, unittest.TestCase):
    def test_example(self):
        self.example("""
            >>> from pressrelease.desks import Desk
            >>> desk = Desk.read('0>1 1>0 2>0,1')
            >>> desk.panel
            ((1,), (0,), (0, 1))
        """)

    def test_texts_of_panels(self):
        for panel in sample_panels() + small_panels():
            for make in DESKS:
                desk = make.read(panel_text(panel))
                self.assertIs(type(desk), make)
                self.shows(desk, panel, (), [])

    def test_of_the_class_on_which_it_is_called(self):
        class Own(Desk):
            """A desk of somebody else."""

        self.assertIs(type(Own.read("0>")), Own)
        self.assertIs(type(GuessDesk(P, ()).read("0>")), GuessDesk)
        self.assertIs(type(Desk(P, ()).read("0>")), Desk)

    def test_desk_stays_as_it_is(self):
        desk = Desk(P, (1,))
        desk.press(0)
        before = picture(desk)
        other = desk.read("0>1 1>")
        other.press(1)
        self.same(picture(desk), before)
        self.shows(other, ((1,), ()), (), [("press", 1)])

    def test_other_values(self):
        for make in DESKS:
            for value in (*NO_NUMBERS, 0, 1, HUGE, P, list(P), ["0>"], ("0>",)):
                if not isinstance(value, str):
                    self.fails(BadText(None), make.read, value)
            for value, index in (
                ("", 0), ("0", 0), ("none", 0), ("0>1 1>2", 1), ("0> ", 1), (" 0>", 0),
                ("0>0", 0), ("0>01 1>", 0), ("0>\n", 0), ("0>  1>", 1), ("1> 0>", 0),
                (" ".join(f"{button}>" for button in range(11)), 10),
            ):
                self.fails(BadText(index), make.read, value)


class LenTest(DeskChecks, unittest.TestCase):
    def test_example(self):
        self.example("""
            >>> from pressrelease.desks import Desk
            >>> P = ((1,), (0,), (0, 1))
            >>> [str(Desk(P, (1,))), Desk(P, (1,)) == Desk(P, ())]
            ['3 buttons, 1 latched, 0 edits', False]
        """)

    def test_len_and_str(self):
        for make in DESKS:
            desk = make(ALONE, ())
            self.same([len(desk), str(desk)], [0, "1 buttons, 0 latched, 0 edits"])
            desk.press(0)
            self.same([len(desk), str(desk)], [1, "1 buttons, 1 latched, 1 edits"])
            desk.undo()
            self.same([len(desk), str(desk)], [0, "1 buttons, 0 latched, 0 edits"])
            desk = make(bare_panel(10), tuple(range(10)))
            for version in range(1, 61):
                desk.press(version % 10)
                self.same(len(desk), version)
                self.same(str(desk), f"10 buttons, 10 latched, {version} edits")


class EqualTest(DeskChecks, unittest.TestCase):
    def alike(self, one, other, wanted):
        for left, right in ((one, other), (other, one)):
            self.same(left == right, wanted)
            self.same(left != right, not wanted)

    def test_panels_and_states(self):
        desks = [
            (panel, state) for panel in small_panels()[::4] + [P, Q, bare_panel(10)]
            for state in sample_states(len(panel))[:3]
        ]
        for one, other in itertools.product(desks, repeat=2):
            for make, second in itertools.product(DESKS, repeat=2):
                self.alike(make(*one), second(*other), one == other)

    def test_same_panel_or_same_state_is_not_enough(self):
        self.alike(Desk(P, (0,)), Desk(P, (1,)), False)
        self.alike(Desk(P, (0,)), Desk(((1,), (0,), (0,)), (0,)), False)
        self.alike(Desk(P, (0,)), GuessDesk(P, ()), False)
        self.alike(GuessDesk(((), (), ()), ()), Desk(P, ()), False)

    def test_whatever_the_edits(self):
        for make, second in itertools.product(DESKS, repeat=2):
            one, other = make(P, (1,)), second(P, (0,))
            self.alike(one, other, False)
            one.press(0)
            self.alike(one, other, True)
            one.press(2)
            other.attempt([("press", 1), ("press", 2)])
            self.alike(one, other, True)
            one.link(0, 2)
            self.alike(one, other, False)
            other.link(0, 2)
            self.alike(one, other, True)
            one.undo()
            self.alike(one, other, False)

    def test_itself(self):
        for make in DESKS:
            desk = make(P, (1,))
            self.alike(desk, desk, True)

    def test_subclass_of_somebody_else(self):
        class Own(GuessDesk):
            """A desk of somebody else."""

        self.alike(Own(P, (1,)), Desk(P, (1,)), True)
        self.alike(Own(P, (1,)), Desk(P, ()), False)

    def test_anything_else(self):
        for make in DESKS:
            desk = make(P, (1,))
            for value in (*NO_NUMBERS, 0, 1, P, (P, (1,)), [P, (1,)], desk.state(), str(desk),
                          Guess(P), make, object(), {"panel": P, "latched": (1,)}):
                self.alike(desk, value, False)
            self.assertNotIn(desk, [None, P, Guess(P), 0])
            self.assertIn(desk, [None, GuessDesk(P, (1,))])
