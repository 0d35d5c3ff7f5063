"""Point 13: guesses, and desks that guess."""

import unittest

from pressrelease.desks import Desk, Guess, GuessDesk
from pressrelease.effects import effect_of
from pressrelease.errors import BadPanel, BadState, Locked, NoButton, Rejected
from tests.desk_support import DeskChecks, do, drawn_edits, told_error, told_versions
from tests.support import (
    ALONE, HUGE, NO_NUMBERS, P, Q, Draws, all_states, bare_panel, drawn_panels, full_panel,
    no_buttons, sample_panels, small_panels, told_effect,
)


def seen_from_every_state(panel, edits):
    """What is the same, whatever the first state was; "same" where it differs.

    A button that nothing has touched is the only one that is not the same.
    """
    words = []
    lasts = [told_versions(panel, state, edits)[-1][1] for state in all_states(len(panel))]
    for button in range(len(panel)):
        on = {button in latched for latched in lasts}
        words.append("same" if len(on) == 2 else "on" if on == {True} else "off")
    return tuple(words)


class GuessTest(DeskChecks, unittest.TestCase):
    def test_example(self):
        self.example("""
            >>> from pressrelease.desks import Guess
            >>> P = ((1,), (0,), (0, 1))
            >>> guess = Guess(P)
            >>> [guess.note(0), guess.known, guess.note(2), guess.known]
            [False, ('on', 'off', 'same'), True, ('off', 'off', 'on')]
        """)

    def test_nothing_is_known_at_first(self):
        for panel in sample_panels() + small_panels():
            self.same(Guess(panel).known, ("same",) * len(panel))

    def test_many_presses(self):
        draws = Draws(271)
        for panel in sample_panels() + drawn_panels(272, (4, 7, 10), each=1):
            guess, row = Guess(panel), ()
            for _ in range(70):
                row += draws.row(len(panel), 1)
                wanted = told_effect(panel, row)
                self.same(guess.note(row[-1]), "same" not in wanted)
                self.same(guess.known, wanted)

    def test_all_rows_of_small_panels(self):
        for panel in small_panels():
            for one in range(len(panel)):
                for other in range(len(panel)):
                    guess = Guess(panel)
                    guess.note(one)
                    guess.note(other)
                    self.same(guess.known, effect_of(panel, (one, other)))

    def test_hundreds_of_presses(self):
        guess = Guess(bare_panel(10))
        for number in range(500):
            self.same(guess.note(number % 9), False)
        self.same(guess.known, ("on",) * 9 + ("same",))
        self.same(guess.note(9), True)
        self.same(guess.note(0), True)

    def test_values_that_are_no_button(self):
        for panel in (ALONE, P, full_panel(10)):
            guess = Guess(panel)
            for button in (None, 0, len(panel) - 1):
                if button is not None:
                    guess.note(button)
                known = guess.known
                for value in no_buttons(len(panel)):
                    self.fails(NoButton(value), guess.note, value)
                    self.same(guess.known, known)

    def test_wrong_panels(self):
        for value, error in (
            (None, (None, "panel")), ((), (None, "panel")), (list(P), (None, "panel")),
            (((True,), ()), (0, "list")), (((), (1,)), (1, "itself")), (((), [0]), (1, "list")),
            (bare_panel(11), (None, "panel")), ("0>", (None, "panel")),
        ):
            self.fails(BadPanel(error), Guess, value)

    def test_two_guesses(self):
        one, other = Guess(P), Guess(P)
        one.note(2)
        self.same([one.known, other.known], [("off", "off", "on"), ("same",) * 3])
        early = one.known
        other.note(0)
        one.note(1)
        self.same(early, ("off", "off", "on"))
        self.same([one.known, other.known], [("off", "on", "on"), ("on", "off", "same")])

    def test_guess_is_no_desk(self):
        self.assertNotIsInstance(Guess(P), Desk)
        self.assertNotIsInstance(Desk(P, ()), Guess)
        self.assertFalse(hasattr(Desk(P, ()), "known"))
        self.assertFalse(hasattr(Desk(P, ()), "note"))


class GuessDeskTest(DeskChecks, unittest.TestCase):
    def test_example(self):
        self.example("""
            >>> from pressrelease.desks import GuessDesk
            >>> P = ((1,), (0,), (0, 1))
            >>> desk = GuessDesk(P, (1,))
            >>> [desk.press(0), desk.known, desk.undo(), desk.known]
            [1, ('on', 'off', 'same'), 0, ('same', 'same', 'same')]
        """)

    def test_is_a_desk_and_a_guess(self):
        self.assertTrue(issubclass(GuessDesk, Desk))
        self.assertTrue(issubclass(GuessDesk, Guess))
        self.assertFalse(issubclass(Desk, Guess))
        self.assertFalse(issubclass(Guess, Desk))
        desk = GuessDesk(P, (1,))
        self.assertIsInstance(desk, Desk)
        self.assertIsInstance(desk, Guess)

    def test_raises_what_a_desk_raises(self):
        for panel, state in (
            (None, ()), (list(P), ()), (((0,),), None), (bare_panel(11), (0,)), (P, None),
            (P, (3,)), (P, [0]), (P, (1, 0)), (P, (True,)), (((True,), ()), ()), (P, "0"),
        ):
            with self.assertRaises((BadPanel, BadState)) as caught:
                Desk(panel, state)
            self.fails(caught.exception, GuessDesk, panel, state)

    def test_nothing_is_known_at_first(self):
        for panel in sample_panels():
            for state in ((), (0,), tuple(range(len(panel)))):
                self.same(GuessDesk(panel, state).known, ("same",) * len(panel))

    def test_panel_at_the_time_of_the_press(self):
        desk = GuessDesk(((1,), (), ()), (2,))
        desk.press(0)
        self.same(desk.known, ("on", "off", "same"))
        desk.link(0, 2)
        self.same(desk.known, ("on", "off", "same"))
        desk.unlink(0, 1)
        self.same(desk.known, ("on", "off", "same"))
        desk.press(1)
        self.same(desk.known, ("on", "on", "same"))
        desk.press(0)
        self.same(desk.known, ("on", "on", "off"))
        knowns = []
        while len(desk):
            desk.undo()
            knowns.append(desk.known)
        self.same(knowns, [
            ("on", "on", "same"), ("on", "off", "same"), ("on", "off", "same"),
            ("on", "off", "same"), ("same", "same", "same"),
        ])

    def test_same_from_every_first_state(self):
        draws = Draws(273)
        for panel in small_panels() + drawn_panels(274, (4, 5), each=1):
            state = draws.state(len(panel))
            desk, edits = GuessDesk(panel, state), []
            for edit in drawn_edits(draws, panel, 12):
                do(desk, edit)
                edits.append(edit)
                self.same(desk.known, seen_from_every_state(panel, edits), (panel, edits))
                for button, word in enumerate(desk.known):
                    if word != "same":
                        self.same(button in desk.latched, word == "on")
            while edits:
                edits.pop()
                desk.undo()
                self.same(desk.known, seen_from_every_state(panel, edits))

    def test_effect_of_the_presses_where_no_list_changes(self):
        draws = Draws(275)
        for panel in sample_panels():
            row = draws.row(len(panel), 20)
            desk, guess = GuessDesk(panel, ()), Guess(panel)
            self.same(desk.attempt([("press", button) for button in row]), 20)
            for button in row:
                guess.note(button)
            self.same(desk.known, effect_of(panel, row))
            self.same(guess.known, desk.known)

    def one_more_batch(self, draws, desk, stand):
        """Do a batch in one of several ways; return the edits that must stand then."""
        batch, choice = drawn_edits(draws, desk.panel, 3), draws.below(5)
        if choice == 0:
            self.refused(desk, Rejected(3), desk.attempt, batch + [("press", None)])
            return stand
        if choice == 1:
            def watch(busy):
                if len(busy) == len(stand) + 2:
                    raise ZeroDivisionError
            with self.assertRaises(ZeroDivisionError):
                desk.attempt(batch, watch=watch)
            return stand
        if choice == 2 and stand:
            self.same(desk.undo(), len(stand) - 1)
            return stand[:-1]
        if choice == 3:
            self.same(desk.attempt(batch, watch=lambda busy: len(busy) == len(stand) + 2), 2)
            return stand + batch[:2]
        self.same(desk.attempt(batch), 3)
        return stand + batch

    def test_batches(self):
        draws = Draws(276)
        for panel in [P, Q] + drawn_panels(277, (2, 4, 6), each=1):
            state = draws.state(len(panel))
            desk, stand = GuessDesk(panel, state), []
            for _ in range(18):
                stand = self.one_more_batch(draws, desk, stand)
                self.shows(desk, panel, state, stand)

    def test_known_while_a_watch_runs(self):
        seen = []
        desk = GuessDesk(P, (1,))
        edits = [("press", 0), ("unlink", 1, 0), ("press", 1), ("press", 2)]
        desk.attempt(edits, watch=lambda busy: seen.append(busy.known))
        self.same(seen, [told[2] for told in told_versions(P, (1,), edits)[1:]])

    def test_known_after_a_batch_that_is_undone(self):
        desk = GuessDesk(P, (1,))
        desk.press(0)
        self.refused(desk, Rejected(2), desk.attempt, [("press", 2), ("link", 0, 2), ("press", 3)])
        self.same(desk.known, ("on", "off", "same"))

        def watch(busy):
            self.same(busy.known, ("off", "off", "on"))
            raise KeyError
        with self.assertRaises(KeyError):
            desk.attempt([("press", 2)], watch=watch)
        self.same(desk.known, ("on", "off", "same"))
        self.same(desk.undo(), 0)
        self.same(desk.known, ("same", "same", "same"))

    def test_note_is_locked(self):
        for panel in (ALONE, P, full_panel(10)):
            desk = GuessDesk(panel, ())
            for value in (*NO_NUMBERS, 0, 1, 2, -1, 99, HUGE):
                self.refused(desk, Locked(), desk.note, value)
            desk.press(0)
            for value in (0, None, 99):
                self.refused(desk, Locked(), desk.note, value)
            self.same(desk.undo(), 0)

    def test_edits_that_fail(self):
        desk = GuessDesk(P, (1,))
        desk.press(0)
        for edit in (("press", 3), ("press", True), ("link", 0, 0), ("link", 0, 1),
                     ("unlink", 0, 2), ("unlink", None, 0)):
            name, *values = edit
            self.refused(desk, told_error(P, 1, edit), getattr(desk, name), *values)
            self.same(desk.known, ("on", "off", "same"))

    def test_two_desks_that_guess(self):
        one, other = GuessDesk(P, (1,)), GuessDesk(P, (1,))
        one.press(2)
        self.same([one.known, other.known], [("off", "off", "on"), ("same",) * 3])
        other.press(0)
        self.same([one.known, other.known], [("off", "off", "on"), ("on", "off", "same")])
