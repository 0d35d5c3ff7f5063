"""Point 12: batches of edits, with and without a watch."""

import copy
import unittest

from pressrelease.desks import Desk, Guess, GuessDesk
from pressrelease.errors import (
    BadEdit, BadEdits, BadPanel, BadState, BadText, Busy, Locked, NoButton, NoChange, NothingToUndo,
    NoVersion, Rejected, SameButton, TooManyEdits,
)
from tests.desk_support import (
    NO_BATCHES, NO_EDITS, DeskChecks, do, drawn_edits, picture, told_error, told_panel,
)
from tests.support import (
    ALONE, P, Q, Draws, all_states, bare_panel, drawn_panels, full_panel, no_buttons,
)

DESKS = (Desk, GuessDesk)


class Broken(Exception):
    """An error that is not one of the package."""


class Wretched(BaseException):
    """An error that is not even an Exception."""


class Odd:
    """A value whose truth cannot be told."""

    def __bool__(self):
        raise Broken


def refusing(error):
    """A watch that raises the error."""
    def watch(desk):
        raise error
    return watch


def at_call(wanted, answer, otherwise=None):
    """A watch that gives the answer at one of its calls."""
    calls = []

    def watch(desk):
        calls.append(desk)
        return answer if len(calls) == wanted else otherwise
    return watch


class AttemptChecks(DeskChecks):
    def attempt(self, desk, edits, **more):
        """Try the batch; what was passed is the same afterwards."""
        before = copy.deepcopy(edits)
        done = desk.attempt(edits, **more)
        self.same(edits, before)
        return done

    def refuses(self, desk, wanted, edits, **more):
        self.refused(desk, wanted, lambda batch: desk.attempt(batch, **more), edits)


class BatchTest(AttemptChecks, unittest.TestCase):
    def test_example(self):
        self.example("""
            >>> from pressrelease.desks import Desk
            >>> P = ((1,), (0,), (0, 1))
            >>> desk = Desk(P, ())
            >>> desk.attempt([('press', 0), ('link', 0, 1)])
            raises Rejected(1)
        """)

    def test_zero_to_twenty_edits(self):
        draws = Draws(241)
        for many in range(21):
            for panel in [P, ALONE] + drawn_panels(242 + many, (4, 10), each=1)[::4]:
                state = draws.state(len(panel))
                first = drawn_edits(draws, panel, 2)
                now = told_panel(told_panel(panel, first[0]), first[1])
                edits = drawn_edits(draws, now, many)
                for make in DESKS:
                    for batch in (edits, tuple(edits)):
                        for more in ({}, {"watch": None}, {"watch": lambda desk: False}):
                            desk = make(panel, state)
                            for edit in first:
                                do(desk, edit)
                            self.same(self.attempt(desk, batch, **more), many)
                        self.shows(desk, panel, state, first + edits)

    def test_each_edit_is_undone_by_itself(self):
        draws = Draws(263)
        for make in DESKS:
            for panel in (P, Q, full_panel(7)):
                edits = drawn_edits(draws, panel, 20)
                desk = make(panel, ())
                desk.attempt(edits)
                while edits:
                    edits.pop()
                    self.same(desk.undo(), len(edits))
                    self.shows(desk, panel, (), edits)
                self.refused(desk, NothingToUndo(), desk.undo)

    def test_empty_batch(self):
        for make in DESKS:
            desk = make(P, (1,))
            for edits in ([], ()):
                self.same(self.attempt(desk, edits), 0)
                self.same(self.attempt(desk, edits, watch=refusing(Broken())), 0)
            self.shows(desk, P, (1,), [])
            for _ in range(60):
                desk.press(0)
            self.same(self.attempt(desk, []), 0)

    def test_values_that_are_no_batch(self):
        for make in DESKS:
            desk = make(P, (1,))
            desk.press(0)
            for value in NO_BATCHES:
                for more in ({}, {"watch": None}, {"watch": refusing(Broken())}):
                    self.refuses(desk, BadEdits(), value, **more)

    def test_twenty_edits_and_more(self):
        for make in DESKS:
            desk = make(P, ())
            for many in (21, 22, 40, 60, 61, 1000):
                self.refuses(desk, BadEdits(), [("press", 0)] * many)
                self.refuses(desk, BadEdits(), (("press", 0),) * many)
                self.refuses(desk, BadEdits(), (("press", None),) * many)
            self.same(desk.attempt([("press", 0)] * 20), 20)

    def test_items_that_are_no_edits(self):
        right = [("press", 0), ("link", 0, 2), ("unlink", 0, 1)]
        for make in DESKS:
            desk = make(P, (1,))
            for item in NO_EDITS:
                for at in range(4):
                    edits = right[:at] + [item] + right[at:]
                    self.refuses(desk, BadEdit(at), edits)
                    self.refuses(desk, BadEdit(at), tuple(edits), watch=refusing(Broken()))
                self.refuses(desk, BadEdit(0), [item] * 20)
                self.refuses(desk, BadEdit(19), [("press", 0)] * 19 + [item])

    def test_first_item_that_is_no_edit(self):
        desk = Desk(P, ())
        for one in NO_EDITS[::3]:
            for other in NO_EDITS[::4]:
                self.refuses(desk, BadEdit(1), [("press", 0), one, other, ("press", 0)])

    def test_no_edit_before_an_edit_that_cannot_be_done(self):
        for make in DESKS:
            desk = make(P, ())
            for item in NO_EDITS[::2]:
                self.refuses(desk, BadEdit(2), [("press", 9), ("link", 0, 0), item])
                self.refuses(desk, BadEdit(0), [item, ("press", 9)])
                self.refuses(desk, BadEdit(1), [("link", 0, 1), item])

    def test_edits_that_cannot_be_done(self):
        values = no_buttons(3)
        wrong = [("press", value) for value in values]
        wrong += [("link", value, 0) for value in values] + [("unlink", 0, v) for v in values]
        wrong += [("link", 0, 0), ("unlink", 1, 1), ("link", 0, 1), ("unlink", 0, 2)]
        wrong += [("link", True, 0), ("press", False), ("unlink", False, True)]
        right = [("press", 0), ("link", 1, 2), ("press", 2), ("unlink", 1, 2)]
        for make in DESKS:
            desk = make(P, (1,))
            desk.press(2)
            for edit in wrong:
                self.assertIsNotNone(told_error(P, 0, edit), edit)
                for at in range(5):
                    if at != 2 and at != 3:
                        self.refuses(desk, Rejected(at), right[:at] + [edit] + right[at:])
                self.refuses(desk, Rejected(0), (edit, ("press", 99)))
                self.refuses(desk, Rejected(4), (*right, edit, edit))

    def test_error_that_comes_from_an_earlier_edit(self):
        for make in DESKS:
            desk = make(P, ())
            self.refuses(desk, Rejected(1), [("link", 0, 2), ("link", 0, 2)])
            self.refuses(desk, Rejected(2), [("link", 0, 2), ("unlink", 0, 2), ("unlink", 0, 2)])
            self.same(desk.attempt([("link", 0, 2), ("unlink", 0, 2), ("link", 0, 2)]), 3)

    def test_too_many_edits_within_a_batch(self):
        for make in DESKS:
            for many in range(40, 61):
                desk = make(P, ())
                for _ in range(many):
                    desk.press(0)
                room = 60 - many
                if room < 20:
                    self.refuses(desk, Rejected(room), [("press", 1)] * 20)
                    self.refuses(desk, Rejected(room), [("press", 1)] * (room + 1))
                    self.refuses(desk, Rejected(room), [("press", 1)] * room + [("press", None)])
                self.same(desk.attempt([("press", 1)] * room), room)
                self.shows(desk, P, (), [("press", 0)] * many + [("press", 1)] * room)
                self.refuses(desk, Rejected(0), [("press", 1)])
                self.refuses(desk, Rejected(0), [("link", 0, 1)])
                self.refuses(desk, BadEdits(), None)
                self.refuses(desk, BadEdit(0), [("press",)])

    def test_drawn_batches(self):
        draws = Draws(243)
        for panel in drawn_panels(244, (1, 2, 3, 5, 8), each=1):
            state = draws.state(len(panel))
            for make in DESKS:
                desk, stand = make(panel, state), []
                for _ in range(12):
                    now = desk.panel
                    batch = drawn_edits(draws, now, draws.below(8))
                    if draws.below(2):
                        names = draws.below(3)
                        wrong = ("press", "link", "unlink")[names]
                        edit = (wrong, *draws.row(len(panel) + 1, 1 if names == 0 else 2))
                        batch.insert(draws.below(len(batch) + 1), edit)
                    at, after = 0, now
                    while at < len(batch) and told_error(after, len(stand) + at, batch[at]) is None:
                        after = told_panel(after, batch[at])
                        at += 1
                    if at < len(batch):
                        self.refuses(desk, Rejected(at), batch)
                    else:
                        self.same(self.attempt(desk, batch), len(batch))
                        stand += batch
                    self.shows(desk, panel, state, stand)
                    if stand and draws.below(2):
                        stand.pop()
                        desk.undo()

    def test_later_changes_of_the_batch(self):
        for make in DESKS:
            desk = make(P, ())
            edits = [("press", 0), ("press", 2)]
            desk.attempt(edits)
            edits.append(("press", 1))
            edits[0] = None
            self.shows(desk, P, (), [("press", 0), ("press", 2)])


class WatchTest(AttemptChecks, unittest.TestCase):
    EDITS = [("press", 0), ("link", 0, 2), ("press", 2), ("unlink", 2, 1), ("press", 1)]

    def test_called_after_each_edit_with_this_desk(self):
        for make in DESKS:
            desk, seen = make(P, (1,)), []

            def watch(other):
                self.assertIs(other, desk)
                self.shows(other, P, (1,), self.EDITS[:len(seen) + 1])
                seen.append(other)
            self.same(self.attempt(desk, self.EDITS, watch=watch), 5)
            self.same(len(seen), 5)
            self.shows(desk, P, (1,), self.EDITS)

    def test_accepts_at_some_call(self):
        for make in DESKS:
            for answer in (True, 1, -1, "no", (0,), [None], {"a": 0}, make, 10 ** 30):
                for wanted in range(1, 6):
                    for edits in (self.EDITS, tuple(self.EDITS)):
                        desk = make(P, (1,))
                        watch = at_call(wanted, answer)
                        self.same(self.attempt(desk, edits, watch=watch), wanted)
                        self.shows(desk, P, (1,), self.EDITS[:wanted])

    def test_values_that_count_as_false(self):
        for make in DESKS:
            for answer in (None, False, 0, "", (), [], {}, Desk(P, ())):
                desk = make(P, (1,))
                watch = at_call(99, True, otherwise=answer)
                self.same(self.attempt(desk, self.EDITS, watch=watch), 5)

    def test_accepts_the_desk_itself(self):
        # A desk counts as true as soon as an edit stands.
        desk = Desk(P, (1,))
        self.same(desk.attempt(self.EDITS, watch=lambda other: other), 1)

    def test_not_called_again_after_it_accepts(self):
        calls = []

        def watch(desk):
            calls.append(len(desk))
            return len(calls) == 2
        desk = Desk(P, (1,))
        self.same(desk.attempt(self.EDITS, watch=watch), 2)
        self.same(calls, [1, 2])

    def test_accepts_before_an_edit_that_cannot_be_done(self):
        for make in DESKS:
            for wrong in (("press", 3), ("link", 0, 0), ("link", 0, 2), ("unlink", [], None)):
                desk = make(P, (1,))
                edits = [("press", 0), ("link", 0, 2), wrong, ("press", 0)]
                self.refuses(desk, Rejected(2), edits)
                self.refuses(desk, Rejected(2), edits, watch=lambda other: 0)
                self.same(self.attempt(desk, edits, watch=at_call(2, True)), 2)
                self.shows(desk, P, (1,), edits[:2])

    def test_accepts_the_sixtieth_edit(self):
        for make in DESKS:
            desk = make(P, ())
            for _ in range(58):
                desk.press(0)
            batch = [("press", 1)] * 4
            self.refuses(desk, Rejected(2), batch, watch=lambda other: False)
            self.same(self.attempt(desk, batch, watch=at_call(2, True)), 2)
            self.same(len(desk), 60)

    def raises(self, make, error, before, wanted):
        desk = make(P, (1,))
        for edit in before:
            do(desk, edit)
        first, calls = picture(desk), []

        def watch(other):
            calls.append(picture(other))
            if len(calls) == wanted:
                raise error
        with self.assertRaises(type(error)) as caught:
            desk.attempt(list(self.EDITS), watch=watch)
        self.assertIs(caught.exception, error)
        self.same(len(calls), wanted)
        self.same(picture(desk), first)
        self.shows(desk, P, (1,), before)
        # It is as if nothing had been: not busy, and the same batch can be done.
        self.same(self.attempt(desk, self.EDITS), 5)
        self.shows(desk, P, (1,), before + self.EDITS)

    def test_errors_of_the_package(self):
        for make in DESKS:
            for error in (
                Busy(), TooManyEdits(), NoButton(7), SameButton(0), NoChange(), NothingToUndo(),
                BadEdits(), BadEdit(0), Rejected(0), Rejected(3), Locked(), BadState(()),
                BadPanel(None), BadText(1), NoVersion(5),
            ):
                for wanted in (1, 2, 5):
                    self.raises(make, error, [], wanted)

    def test_other_errors(self):
        for make in DESKS:
            for error in (
                Broken(), ValueError("x"), KeyError("x"), LookupError(), StopIteration(),
                ZeroDivisionError(), RuntimeError(), AssertionError(), TypeError(),
                KeyboardInterrupt(), GeneratorExit(), SystemExit(1), Wretched(), MemoryError(),
            ):
                for wanted in range(1, 6):
                    self.raises(make, error, [("press", 2), ("link", 1, 2)], wanted)

    def test_answer_without_a_truth(self):
        for make in DESKS:
            desk = make(P, (1,))
            first = picture(desk)
            with self.assertRaises(Broken):
                desk.attempt(self.EDITS, watch=at_call(3, Odd()))
            self.same(picture(desk), first)
            self.same(desk.press(0), 1)

    def test_edits_fail_again_after_an_error(self):
        for make in DESKS:
            desk = make(P, (1,))
            desk.press(2)
            for _ in range(3):
                with self.assertRaises(Broken):
                    desk.attempt(self.EDITS, watch=refusing(Broken()))
                self.refuses(desk, Rejected(1), [("press", 0), ("link", 0, 1)])
                self.shows(desk, P, (1,), [("press", 2)])
                self.no_version(desk, 2)
            self.same(desk.undo(), 0)
            self.refused(desk, NothingToUndo(), desk.undo)


class BusyTest(AttemptChecks, unittest.TestCase):
    """What a watch may do to its own desk, and to others."""

    EDITS = [("press", 0), ("link", 0, 2), ("press", 2)]

    def changes(self, desk):
        """Every method that changes the desk, with right values and with wrong ones."""
        for value in (0, 1, 3, None, True, [], "press", {}):
            yield desk.press, value
            yield desk.link, value, 0
            yield desk.link, 1, value
            yield desk.unlink, value, 1
            yield desk.unlink, value, value
        yield (desk.undo,)
        for edits in ([], (), [("press", 0)], [("press", 9)], [None], None, "x", [0] * 21,
                      [("link", 1, 2)], {"press": 0}):
            yield desk.attempt, edits
            yield (lambda edits: desk.attempt(edits, watch=None)), edits
            yield (lambda edits: desk.attempt(edits, watch=refusing(Broken()))), edits

    def test_every_change_is_refused(self):
        for make in DESKS:
            desk = make(P, (1,))
            calls = []

            def watch(other):
                for change, *values in self.changes(other):
                    self.refused(other, Busy(), change, *values)
                calls.append(picture(other))
                self.shows(desk, P, (1,), self.EDITS[:len(calls)])
            self.same(self.attempt(desk, self.EDITS, watch=watch), 3)
            self.same(len(calls), 3)
            self.shows(desk, P, (1,), self.EDITS)
            self.same([desk.press(0), desk.undo(), desk.undo()], [4, 3, 2])

    def test_busy_at_once_and_free_afterwards(self):
        for make in DESKS:
            for answer in (True, False):
                desk = make(P, ())

                def watch(other):
                    self.fails(Busy(), other.press, 0)
                    self.fails(Busy(), other.undo)
                    return answer
                desk.attempt([("press", 1), ("press", 2)], watch=watch)
                version = len(desk)
                self.same(desk.press(0), version + 1)
                self.same(desk.attempt([("press", 1)]), 1)
                self.same(desk.undo(), version + 1)

    def test_busy_comes_before_too_many_edits(self):
        for make in DESKS:
            desk = make(P, ())
            for _ in range(59):
                desk.press(0)

            def watch(other):
                self.same(len(other), 60)
                self.refused(other, Busy(), other.press, 0)
                self.refused(other, Busy(), other.press, None)
                self.refused(other, Busy(), other.link, 0, 0)
                self.refused(other, Busy(), other.attempt, None)
            self.same(self.attempt(desk, [("press", 1)], watch=watch), 1)
            self.refused(desk, TooManyEdits(), desk.press, 0)

    def test_busy_error_that_goes_through(self):
        for make in DESKS:
            for change in (
                lambda desk: desk.press(0), lambda desk: desk.undo(),
                lambda desk: desk.link(1, 2), lambda desk: desk.unlink(0, 1),
                lambda desk: desk.attempt([]), lambda desk: desk.attempt([("press", 0)]),
            ):
                desk = make(P, (1,))
                desk.press(2)
                self.refuses(desk, Busy(), self.EDITS, watch=change)
                self.same(self.attempt(desk, self.EDITS), 3)

    def test_queries_and_walks(self):
        for make in DESKS:
            desk, seen = make(P, (1,)), []

            def watch(other):
                seen.append(len(other))
                self.shows(other, P, (1,), self.EDITS[:len(other)])
                fresh = Desk(other.panel, other.latched)
                for goal in all_states(3):
                    self.same(self.call(other.way_to, goal), fresh.way_to(goal))
                    self.same(list(other.walk(goal)), list(fresh.walk(goal)))
                self.assertEqual(other, fresh)
                self.fails(BadState(None), other.way_to, None)
                self.fails(NoVersion(-1), lambda version: other.state(version=version), -1)
            self.same(self.attempt(desk, self.EDITS, watch=watch), 3)
            self.same(seen, [1, 2, 3])

    def test_walk_that_is_stopped_in_a_watch(self):
        desk = Desk(bare_panel(4), ())
        walks = []

        def watch(other):
            walk = other.walk((0, 1, 2, 3))
            walks.append((next(walk), walk))
        self.same(self.attempt(desk, [("press", 0), ("press", 1)], watch=watch), 2)
        self.same([first for first, walk in walks], [(1, (0, 1)), (2, (0, 1, 2))])

    def test_locked_while_it_is_busy(self):
        desk = GuessDesk(P, (1,))

        def watch(other):
            for value in (0, None, 9, True):
                self.refused(other, Locked(), other.note, value)
        self.same(self.attempt(desk, self.EDITS, watch=watch), 3)

    def test_edits_of_another_desk(self):
        for make in DESKS:
            for other in (Desk(Q, ()), GuessDesk(Q, ())):
                desk = make(P, (1,))

                def watch(busy):
                    other.press(3)
                    other.attempt([("press", 0), ("press", 1)], watch=lambda free: True)
                    other.undo()
                self.same(self.attempt(desk, self.EDITS, watch=watch), 3)
                self.shows(desk, P, (1,), self.EDITS)
                self.shows(other, Q, (), [("press", 3)] * 3)

    def test_other_desk_keeps_its_edits(self):
        other, guess = Desk(Q, ()), Guess(P)
        desk = Desk(P, (1,))

        def watch(busy):
            other.press(3)
            guess.note(0)
            raise Broken
        with self.assertRaises(Broken):
            desk.attempt(self.EDITS, watch=watch)
        self.shows(desk, P, (1,), [])
        self.shows(other, Q, (), [("press", 3)])
        self.same(guess.known, ("on", "off", "same"))

    def test_watch_in_a_watch(self):
        for make in DESKS:
            desk, other = make(P, (1,)), make(Q, ())

            def inner(inside):
                self.assertIs(inside, other)
                self.refused(desk, Busy(), desk.press, 0)
                self.refused(other, Busy(), other.press, 0)
                return len(other) % 2 == 0

            def outer(outside):
                self.same(other.attempt([("press", 0)] * 5, watch=inner), 2)
                self.refused(desk, Busy(), desk.undo)
                self.refuses(other, Rejected(1), [("press", 1), ("press", 4)])
                self.refused(desk, Busy(), desk.undo)
                with self.assertRaises(Broken):
                    other.attempt([("press", 2)], watch=refusing(Broken()))
                self.refused(desk, Busy(), desk.attempt, [])
            self.same(self.attempt(desk, self.EDITS, watch=outer), 3)
            self.shows(desk, P, (1,), self.EDITS)
            self.shows(other, Q, (), [("press", 0)] * 6)
            self.same([desk.undo(), other.undo()], [2, 5])

    def test_new_desks_in_a_watch(self):
        desk = Desk(P, (1,))

        def watch(busy):
            fresh = GuessDesk(busy.panel, busy.latched)
            self.same([fresh.press(0), fresh.attempt([("press", 1)]), fresh.undo()], [1, 1, 1])
            self.same(Desk.read("0>").press(0), 1)
        self.same(self.attempt(desk, self.EDITS, watch=watch), 3)

    def test_changes_of_the_list_that_was_passed(self):
        def add(edits):
            edits.append(("press", 1))

        def empty(edits):
            edits.clear()

        def spoil(edits):
            edits[:] = [None] * 30

        def turn(edits):
            edits.reverse()

        for make in DESKS:
            for change in (add, empty, spoil, turn):
                desk, edits = make(P, (1,)), list(self.EDITS)
                self.same(desk.attempt(edits, watch=lambda busy: change(edits)), 3)
                self.shows(desk, P, (1,), self.EDITS)

    def test_changes_inside_the_list_that_was_passed(self):
        for make in DESKS:
            inner = [0]
            edits = [("press", 0), ("press", inner), ("press", 1)]
            desk = make(P, (1,))

            def watch(busy):
                inner.clear()
            first = picture(desk)
            with self.assertRaises(Rejected) as caught:
                desk.attempt(edits, watch=watch)
            self.same(caught.exception.index, 1)
            self.same(picture(desk), first)

    def test_callable_object_as_watch(self):
        class Counter:
            many = 0

            def __call__(self, desk):
                self.many += 1
                return self.many == 2

        self.same(Desk(P, (1,)).attempt(self.EDITS, watch=Counter()), 2)
