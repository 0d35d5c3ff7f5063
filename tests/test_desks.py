"""Point 11: desks, their attributes, edits and undo."""

import itertools
import unittest

from pressrelease import bounds
from pressrelease.desks import Desk, Guess, GuessDesk
from pressrelease.errors import (
    BadPanel, BadState, NoButton, NoChange, NothingToUndo, SameButton, TooManyEdits,
)
from pressrelease.panels import panel_error
from tests.desk_support import (
    DeskChecks, do, drawn_edits, picture, told_error, told_panel,
)
from tests.support import (
    ALONE, HUGE, NO_NUMBERS, P, Q, Draws, all_states, bare_panel, drawn_panels, full_panel,
    no_buttons, round_panel, sample_panels, sample_states, shown, small_panels,
)

DESKS = (Desk, GuessDesk)

PANELS_WITH_STATES = [
    (panel, state) for panel in sample_panels() for state in sample_states(len(panel))
]


def with_something_else(value, others):
    """All values with just one part, at any depth, or the whole, replaced by one of the others."""
    for other in others:
        yield other
    if isinstance(value, tuple):
        yield list(value)
        for index, item in enumerate(value):
            for changed in with_something_else(item, others):
                yield value[:index] + (changed,) + value[index + 1:]
            yield value[:index] + value[index + 1:]
            yield value[:index] + (item,) + value[index:]
        yield value[::-1]


OTHERS = NO_NUMBERS + (-1, 0, 1, 2, 3, 10, HUGE, ((),), ((1,), (0,)), [(1,), (0,)], (0, 1))


class NewDeskTest(DeskChecks, unittest.TestCase):
    def test_example(self):
        self.example("""
            >>> from pressrelease.desks import Desk
            >>> P = ((1,), (0,), (0, 1))
            >>> desk = Desk(P, (1,))
            >>> [desk.panel == P, desk.latched, desk.held, len(desk)]
            [True, (1,), (), 0]
        """)

    def test_example_of_attributes(self):
        self.example("""
            >>> from pressrelease.desks import Desk
            >>> [Desk.MOST_EDITS, Desk(((1,), (0,)), (0, 1)).held]
            [60, (0, 1)]
        """)

    def test_right_panels_and_states(self):
        for make in DESKS:
            for panel, state in PANELS_WITH_STATES:
                self.shows(make(panel, state), panel, state, [])
            for panel in small_panels():
                for state in all_states(len(panel)):
                    self.shows(make(panel, state), panel, state, [])

    def test_most_edits(self):
        for make in DESKS:
            self.same(make.MOST_EDITS, bounds.MAX_EDITS)
            self.same(make(P, ()).MOST_EDITS, 60)

    def test_attributes_are_set_when_the_desk_is_made(self):
        for name in ("panel", "latched", "held"):
            for make in DESKS:
                self.assertTrue(hasattr(make(P, ()), name))

    def wrong_panel(self, value):
        error = panel_error(value)
        self.assertIsNotNone(error, value)
        for make in DESKS:
            for state in ((), (0,), None, [0], (HUGE,)):
                self.fails(BadPanel(error), make, value, state)
        self.fails(BadPanel(error), Guess, value)

    def test_wrong_panels(self):
        wrong = 0
        for panel in (ALONE, ((1,), ()), P, ((1, 2), (), (0,))):
            for value in with_something_else(panel, OTHERS):
                if panel_error(value) is None:
                    self.shows(Desk(value, ()), value, (), [])
                else:
                    wrong += 1
                    self.wrong_panel(value)
        self.assertGreater(wrong, 300)

    def test_wrong_panels_by_hand(self):
        for value, error in (
            (None, (None, "panel")), ((), (None, "panel")), ([()], (None, "panel")),
            (list(P), (None, "panel")), ("0>", (None, "panel")), (True, (None, "panel")),
            ({"0": ()}, (None, "panel")), (bare_panel(11), (None, "panel")),
            (full_panel(11), (None, "panel")), (((0,),), (0, "itself")), (((1,),), (0, "list")),
            (([],), (0, "list")), (((True,), ()), (0, "list")), (((), (False,)), (1, "list")),
            (((1,), (0,), (0, True)), (2, "list")), (((1,), (1,), None), (1, "itself")),
        ):
            self.same(panel_error(value), error)
            self.wrong_panel(value)
        for many in (11, 12, 30):
            self.wrong_panel(bare_panel(many))
        self.shows(Desk(full_panel(10), (9,)), full_panel(10), (9,), [])

    def test_wrong_states(self):
        for panel in (ALONE, P, Q, full_panel(10)):
            many = len(panel)
            right = {shown(state) for state in all_states(many)}
            states = [(), (0,), (many - 1,), tuple(range(many)), tuple(range(many))[::2]]
            others = no_buttons(many) + OTHERS
            for value in itertools.chain(*(with_something_else(s, others) for s in states)):
                for make in DESKS:
                    if shown(value) in right:
                        self.same(make(panel, value).latched, value)
                    else:
                        self.fails(BadState(value), make, panel, value)

    def test_wrong_states_by_hand(self):
        for value in (
            None, 0, [], [0], (3,), (0, 3), (1, 0), (0, 0), (True,), (False,), (0, True), (-1,),
            "0", "none", (0, None), ((0,),), ((),), {}, (0, 1, 2, 3), (HUGE,),
        ):
            for make in DESKS:
                self.fails(BadState(value), make, P, value)

    def test_very_values_in_errors(self):
        for value in ([0], [], {"a": [1]}, (0, [1])):
            with self.assertRaises(BadState) as caught:
                Desk(P, value)
            self.assertIs(caught.exception.value, value)
            with self.assertRaises(NoButton) as caught:
                Desk(P, ()).press(value)
            self.assertIs(caught.exception.value, value)

    def test_true_after_one(self):
        for make in DESKS:
            for _ in range(2):
                self.shows(make(((1,), (0,)), (1,)), ((1,), (0,)), (1,), [])
                self.fails(BadState((True,)), make, ((1,), (0,)), (True,))
                self.fails(BadPanel((0, "list")), make, ((True,), (0,)), (1,))


class EditTest(DeskChecks, unittest.TestCase):
    def test_example(self):
        self.example("""
            >>> from pressrelease.desks import Desk
            >>> P = ((1,), (0,), (0, 1))
            >>> desk = Desk(P, (1,))
            >>> [desk.press(0), desk.latched, desk.unlink(0, 1), desk.press(1), desk.press(0), desk.latched]
            [1, (0,), 2, 3, 4, (0, 1)]
        """)

    def test_each_edit_by_hand(self):
        for make in DESKS:
            desk = make(Q, (3,))
            self.same(desk.press(0), 1)
            self.same((desk.panel, desk.latched, desk.held), (Q, (0, 3), ()))
            self.same(desk.press(3), 2)
            self.same((desk.panel, desk.latched, desk.held), (Q, (3,), ()))
            self.same(desk.link(3, 1), 3)
            self.same(desk.panel, ((1,), (2,), (0,), (0, 1)))
            self.same(desk.latched, (3,))
            self.same(desk.unlink(3, 0), 4)
            self.same(desk.panel, ((1,), (2,), (0,), (1,)))
            self.same(desk.press(0), 5)
            self.same(desk.latched, (0, 3))
            self.same(desk.edits(), (
                ("press", 0), ("press", 3), ("link", 3, 1), ("unlink", 3, 0), ("press", 0),
            ))

    def test_link_makes_a_round_and_unlink_breaks_it(self):
        for make in DESKS:
            desk = make(((1,), (), (0,)), (0, 1, 2))
            self.same(desk.held, ())
            desk.link(1, 0)
            self.same(desk.held, (0, 1, 2))
            desk.unlink(2, 0)
            self.same(desk.held, (0, 1))
            desk.link(1, 2)
            self.same(desk.held, (0, 1))
            desk.unlink(1, 0)
            self.same(desk.held, ())
            desk.link(2, 0)
            self.same(desk.held, (0, 1, 2))
            self.same(desk.latched, (0, 1, 2))
            helds = []
            while len(desk):
                desk.undo()
                helds.append(desk.held)
            self.same(helds, [(), (0, 1), (0, 1), (0, 1, 2), ()])

    def test_all_links_of_small_panels(self):
        for panel in small_panels() + [Q]:
            for one, other in itertools.permutations(range(len(panel)), 2):
                for make in DESKS:
                    for state in all_states(len(panel))[::3]:
                        edit = ("unlink" if other in panel[one] else "link", one, other)
                        desk = make(panel, state)
                        self.same(do(desk, edit), 1)
                        self.shows(desk, panel, state, [edit])
                        self.same(desk.undo(), 0)
                        self.shows(desk, panel, state, [])

    def test_rows_of_edits_and_undos(self):
        draws = Draws(231)
        for panel in drawn_panels(232, range(1, 11), each=1) + [P, Q, ALONE]:
            state = draws.state(len(panel))
            for make in DESKS:
                desk, edits = make(panel, state), []
                for _ in range(24):
                    if edits and draws.below(3) == 0:
                        edits.pop()
                        self.same(desk.undo(), len(edits))
                    else:
                        now = panel
                        for edit in edits:
                            now = told_panel(now, edit)
                        edits += drawn_edits(draws, now, 1)
                        self.same(do(desk, edits[-1]), len(edits))
                    self.shows(desk, panel, state, edits)


class WrongEditTest(DeskChecks, unittest.TestCase):
    """The error that is listed first, with its field, and nothing changes."""

    def right_error(self, desk, edit):
        wanted = told_error(desk.panel, len(desk), edit)
        name, *values = edit
        if wanted is not None:
            self.refused(desk, wanted, getattr(desk, name), *values)
        else:
            version = len(desk)
            self.same(do(desk, edit), version + 1)
            self.same(desk.undo(), version)

    def test_press_with_all_values(self):
        for make in DESKS:
            for panel in (ALONE, P, full_panel(10)):
                desk = make(panel, (0,))
                for value in no_buttons(len(panel)) + (11, 60, -2, 10 ** 20):
                    self.refused(desk, NoButton(value), desk.press, value)
                    self.right_error(desk, ("press", value))
                for value in range(len(panel)):
                    self.right_error(desk, ("press", value))

    def test_link_and_unlink_with_all_values(self):
        values = (0, 1, 2) + no_buttons(3)
        for make in DESKS:
            desk = make(((1,), (0,), (0,)), (1,))
            desk.press(2)
            for one, other in itertools.product(values, repeat=2):
                self.right_error(desk, ("link", one, other))
                self.right_error(desk, ("unlink", one, other))

    def test_first_argument_that_is_no_button(self):
        for make in DESKS:
            desk = make(P, ())
            for edit in (desk.link, desk.unlink):
                self.refused(desk, NoButton(3), edit, 3, 0)
                self.refused(desk, NoButton(3), edit, 0, 3)
                self.refused(desk, NoButton(3), edit, 3, 4)
                self.refused(desk, NoButton(4), edit, 4, 3)
                self.refused(desk, NoButton(True), edit, True, False)
                self.refused(desk, NoButton(False), edit, 1, False)
                self.refused(desk, NoButton(True), edit, 1, True)
                self.refused(desk, NoButton(None), edit, None, None)
                self.refused(desk, NoButton([0]), edit, [0], 0)
                self.refused(desk, NoButton(9), edit, 9, 9)

    def test_equal_buttons(self):
        for make in DESKS:
            for panel in (ALONE, P, full_panel(10)):
                desk = make(panel, ())
                for button in range(len(panel)):
                    self.refused(desk, SameButton(button), desk.link, button, button)
                    self.refused(desk, SameButton(button), desk.unlink, button, button)

    def test_lists_that_would_not_change(self):
        for make in DESKS:
            for panel in (P, Q, full_panel(10), bare_panel(10), round_panel(5)):
                desk = make(panel, ())
                for one, other in itertools.permutations(range(len(panel)), 2):
                    edit = desk.link if other in panel[one] else desk.unlink
                    self.refused(desk, NoChange(), edit, one, other)
                    self.right_error(desk, ("link", one, other))
                    self.right_error(desk, ("unlink", one, other))

    def test_twice_the_same_link(self):
        desk = Desk(P, ())
        desk.link(0, 2)
        self.refused(desk, NoChange(), desk.link, 0, 2)
        desk.unlink(0, 2)
        self.refused(desk, NoChange(), desk.unlink, 0, 2)
        self.same(desk.link(0, 2), 3)


class ManyEditsTest(DeskChecks, unittest.TestCase):
    def full_desk(self, make, panel, state, edits):
        desk = make(panel, state)
        for number, edit in enumerate(edits, 1):
            self.same(do(desk, edit), number)
        return desk

    def test_sixty_edits_and_one_more(self):
        draws = Draws(233)
        for make, panel in itertools.product(DESKS, (P, ALONE, full_panel(10))):
            edits = drawn_edits(draws, panel, 60)
            desk = self.full_desk(make, panel, (0,), edits)
            self.shows(desk, panel, (0,), edits)
            for values in (0, 0), (0, 1), (1, 0), (99, 0), (None, True), ([], {}), (True, 1):
                self.refused(desk, TooManyEdits(), desk.press, values[0])
                self.refused(desk, TooManyEdits(), desk.link, *values)
                self.refused(desk, TooManyEdits(), desk.unlink, *values)
            self.shows(desk, panel, (0,), edits)

    def test_room_again_after_undo(self):
        draws = Draws(234)
        for make in DESKS:
            edits = drawn_edits(draws, Q, 59)
            desk = self.full_desk(make, Q, (), edits + [("press", 3)])
            self.refused(desk, TooManyEdits(), desk.press, 1)
            self.same(desk.undo(), 59)
            self.same(desk.press(1), 60)
            self.refused(desk, TooManyEdits(), desk.press, 1)
            self.shows(desk, Q, (), edits + [("press", 1)])

    def test_undo_example(self):
        self.example("""
            >>> from pressrelease.desks import Desk
            >>> P = ((1,), (0,), (0, 1))
            >>> desk = Desk(P, (1,))
            >>> [desk.press(0), desk.undo(), desk.latched]
            [1, 0, (1,)]
        """)

    def test_undo_down_to_the_beginning(self):
        draws = Draws(235)
        for make in DESKS:
            for panel in [P, ALONE, full_panel(10)] + drawn_panels(236, (6,), each=1):
                state = draws.state(len(panel))
                edits = drawn_edits(draws, panel, 60)
                desk = self.full_desk(make, panel, state, edits)
                while edits:
                    edits.pop()
                    self.same(desk.undo(), len(edits))
                    if len(edits) % 7 == 0:
                        self.shows(desk, panel, state, edits)
                self.refused(desk, NothingToUndo(), desk.undo)
                self.shows(desk, panel, state, [])
                self.same(desk.press(0), 1)
                self.shows(desk, panel, state, [("press", 0)])

    def test_nothing_to_undo(self):
        for make in DESKS:
            desk = make(P, (2,))
            self.refused(desk, NothingToUndo(), desk.undo)
            self.refused(desk, NoChange(), desk.link, 0, 1)
            self.refused(desk, NothingToUndo(), desk.undo)

    def test_press_that_changes_nothing_is_an_edit(self):
        for make in DESKS:
            desk = make(ALONE, (0,))
            self.same([desk.press(0), desk.press(0)], [1, 2])
            self.shows(desk, ALONE, (0,), [("press", 0)] * 2)
            self.same([desk.undo(), desk.undo()], [1, 0])

    def test_two_desks_of_the_same_values(self):
        for make in DESKS:
            one, other = make(P, (1,)), make(P, (1,))
            before = picture(other)
            one.press(0)
            one.link(0, 2)
            self.same(picture(other), before)
            other.press(2)
            self.shows(one, P, (1,), [("press", 0), ("link", 0, 2)])
            self.shows(other, P, (1,), [("press", 2)])
