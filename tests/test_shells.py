"""Point 15: desks that are used by lines of text."""

import itertools
import unittest

from pressrelease.desks import Desk, GuessDesk
from pressrelease.shells import Shell
from pressrelease.texts import panel_text, row_text
from tests.desk_support import DeskChecks, do, drawn_edits, picture, told_error, told_held
from tests.support import (
    ALONE, HUGE, NO_NUMBERS, P, Q, Draws, all_states, bare_panel, drawn_panels, full_panel,
    small_panels, ways_by_presses,
)

DESKS = (Desk, GuessDesk)

UNKNOWN_LINES = (
    "", " ", "  ", "\n", "press", "press ", "press  0", " press 0", "press 0 ", "press 0\n",
    "press 0 1", "press\n0", "Press 0", "PRESS 0", "press +0", "press -0", "press -1", "press 00",
    "press 01", "press 03", "press a", "press none", "press 0,1", "press 1.0", "press 1e0",
    "press True", "press 0x1", "press 1_0", "press 00000000000", "press 12345678901",
    "press 10000000000", "press 99999999999", "press 0000000001", "press " + "1" * 1990,
    "press " + "9" * 6000, "press \u0661", "press \u00b9", "press 0 0 0", "press(0)",
    "link", "link ", "link 0", "link 0 ", "link 0 1 2", "link  0 1", "link 0  1", "link 0 01",
    "link 00 1", "link 0 -1", "link 0,1", "link 0>1", "link 12345678901 0", "link 0 12345678901",
    "link 0 1 ", "link a b", "unlink", "unlink 0", "unlink 0 ", "unlink 0 1 2", "unlink 0 +1",
    "unlink 0  1", "unlink 01 0", "unlink 0 00000000001", "un link 0 1", "links 0 1",
    "undo ", "undo 0", "undo 1", "undo undo", " undo", "undo\n", "Undo", "undoo", "und",
    "latched ", "latched 0", " latched", "latched\n", "Latched", "latch", "held ", "held 0",
    "held none", "HELD", "panel ", "panel 0", "panel 0>", "Panel", "panels",
    "way", "way ", "way  ", "way  0", "way 0 ", "way 1 0", "way 0 0", "way 2 1", "way 0 1 1",
    "way 3", "way 0 3", "way 00", "way 01", "way 0  1", "way none ", "way  none", "way none none",
    "way none 0", "way 0 none", "way None", "way -1", "way +1", "way a", "way 0,1", "way 0>1",
    "way 0\n", "way\n0", "way 12345678901", "way 0 1 2 3", "way (0,)", "way ()", "way never",
    "way" + " 0" * 61, "way \u0661", "way0", "Way 0",
    "attempt", "attempt []", "state", "state 0", "edits", "walk 0", "read 0>", "note 0", "known",
    "len", "str", "version", "MOST_EDITS", "unknown command", "error", "ok", "ok 1", "help",
    "exit", "press 0; undo", "press 0\nundo", "press\t0", "none", "0", "never",
)


class ShellChecks(DeskChecks):
    def answers(self, shell, line, wanted):
        answer = shell.execute(line)
        self.same(answer, wanted, line)

    def unchanged(self, desk, line, wanted, shell=None):
        """The answer, twice, and the desk is as it was."""
        before = picture(desk)
        for _ in range(2):
            self.answers(shell or Shell(desk), line, wanted)
        self.same(picture(desk), before, line)


class CommandTest(ShellChecks, unittest.TestCase):
    def test_example(self):
        self.example("""
            >>> from pressrelease.desks import Desk
            >>> from pressrelease.shells import Shell
            >>> Shell(Desk(((),), (0,))).execute('latched')
            '0'
        """)

    def test_example_of_lines(self):
        self.example("""
            >>> from pressrelease.desks import Desk
            >>> from pressrelease.shells import Shell
            >>> P = ((1,), (0,), (0, 1))
            >>> shell = Shell(Desk(P, (1,)))
            >>> [shell.execute('press 0'), shell.execute('latched'), shell.execute('way 0 2'), shell.execute('way 0 1'), shell.execute('link 0 1'), shell.execute('press 03')]
            ['ok 1', '0', '2 0', 'never', 'error NoChange', 'unknown command']
        """)

    def test_each_command(self):
        for make in DESKS:
            desk = make(P, (1,))
            shell = Shell(desk)
            for line, wanted in (
                ("latched", "1"), ("held", "none"), ("panel", "0>1 1>0 2>0,1"),
                ("press 2", "ok 1"), ("latched", "2"), ("link 0 2", "ok 2"),
                ("panel", "0>1,2 1>0 2>0,1"), ("unlink 2 1", "ok 3"), ("panel", "0>1,2 1>0 2>0"),
                ("press 1", "ok 4"), ("latched", "1 2"), ("undo", "ok 3"), ("latched", "2"),
                ("undo", "ok 2"), ("undo", "ok 1"), ("panel", "0>1 1>0 2>0,1"), ("undo", "ok 0"),
                ("undo", "error NothingToUndo"), ("latched", "1"), ("way none", "never"),
                ("way 1", "none"), ("way 2", "2"), ("way 0 2", "2 0"), ("way 0 1 2", "never"),
            ):
                self.answers(shell, line, wanted)
            self.shows(desk, P, (1,), [])

    def test_drawn_commands(self):
        draws = Draws(291)
        for panel in [P, Q, ALONE] + drawn_panels(292, (2, 5, 10), each=1):
            for make in DESKS:
                state = draws.state(len(panel))
                desk, edits = make(panel, state), []
                shell = Shell(desk)
                for _ in range(40):
                    if draws.below(4) == 0:
                        wanted = f"ok {len(edits) - 1}" if edits else "error NothingToUndo"
                        edits = edits[:-1]
                        self.answers(shell, "undo", wanted)
                    else:
                        name = ("press", "link", "unlink")[draws.below(3)]
                        values = draws.row(len(panel) + 1, 1 if name == "press" else 2)
                        error = told_error(desk.panel, len(edits), (name, *values))
                        line = " ".join([name, *map(str, values)])
                        if error is None:
                            edits = edits + [(name, *values)]
                            self.answers(shell, line, f"ok {len(edits)}")
                        else:
                            self.unchanged(desk, line, f"error {type(error).__name__}", shell)
                    self.answers(shell, "latched", row_text(desk.latched))
                    self.answers(shell, "held", row_text(told_held(desk.panel, desk.latched)))
                    self.answers(shell, "panel", panel_text(desk.panel))
                self.shows(desk, panel, state, edits)

    def test_way(self):
        for panel in small_panels()[::3] + [Q] + drawn_panels(293, (4,), each=1):
            for start in all_states(len(panel))[::3]:
                ways = ways_by_presses(panel, start)
                desk = Desk(panel, start)
                for goal in all_states(len(panel)):
                    way = ways.get(goal)
                    wanted = "never" if way is None else row_text(way)
                    self.unchanged(desk, f"way {row_text(goal)}", wanted)

    def test_way_with_ten_buttons(self):
        desk = Desk(bare_panel(10), ())
        self.unchanged(desk, "way 0 1 2 3 4 5 6 7 8 9", "0 1 2 3 4 5 6 7 8 9")
        self.unchanged(desk, "way 9", "9")
        self.unchanged(desk, "way none", "none")
        self.unchanged(desk, "way 9 8", "unknown command")
        self.unchanged(desk, "way 10", "unknown command")
        self.unchanged(Desk(full_panel(10), (0,)), "way none", "never")

    def test_way_on_the_present_panel(self):
        desk = Desk(P, (1,))
        shell = Shell(desk)
        self.answers(shell, "way 0", "0")
        desk.unlink(0, 1)
        self.answers(shell, "way 0", "never")
        desk.press(2)
        self.answers(shell, "way 0", "never")
        self.answers(shell, "way 0 2", "0")

    def test_errors(self):
        for make in DESKS:
            desk = make(P, (1,))
            desk.press(0)
            for line, wanted in (
                ("press 3", "NoButton"), ("press 10", "NoButton"), ("press 9999999999", "NoButton"),
                ("press 1234567890", "NoButton"), ("link 3 0", "NoButton"),
                ("link 0 3", "NoButton"), ("link 3 3", "NoButton"), ("link 7 8", "NoButton"),
                ("unlink 0 9999999999", "NoButton"), ("unlink 1234567890 1234567890", "NoButton"),
                ("link 0 0", "SameButton"), ("unlink 2 2", "SameButton"), ("link 0 1", "NoChange"),
                ("unlink 0 2", "NoChange"), ("unlink 1 2", "NoChange"), ("link 2 1", "NoChange"),
            ):
                self.unchanged(desk, line, f"error {wanted}")
            desk.undo()
            self.unchanged(desk, "undo", "error NothingToUndo")

    def test_too_many_edits_comes_first(self):
        draws = Draws(294)
        for make in DESKS:
            desk = make(P, (1,))
            shell = Shell(desk)
            for version, edit in enumerate(drawn_edits(draws, P, 60), 1):
                self.answers(shell, " ".join(map(str, edit)), f"ok {version}")
            for line in ("press 0", "press 3", "press 9999999999", "link 0 0", "link 3 4",
                         "link 0 1", "unlink 0 1", "unlink 1 1", "unlink 9 0"):
                self.unchanged(desk, line, "error TooManyEdits")
            for line in ("press 00", "press 12345678901", "link 0", "unlink", "undo 1"):
                self.unchanged(desk, line, "unknown command")
            self.answers(shell, "undo", "ok 59")
            self.answers(shell, "press 1", "ok 60")
            for version in range(59, -1, -1):
                self.answers(shell, "undo", f"ok {version}")
            self.answers(shell, "undo", "error NothingToUndo")


class UnknownTest(ShellChecks, unittest.TestCase):
    def test_every_other_line(self):
        for make in DESKS:
            desk = make(P, (1,))
            desk.press(2)
            for line in UNKNOWN_LINES:
                self.unchanged(desk, line, "unknown command")

    def test_values_that_are_no_texts(self):
        desk = Desk(P, (1,))
        desk.press(2)
        for value in (*NO_NUMBERS, 0, 1, HUGE, ["undo"], ("undo",), {"undo": 1}, ["press", "0"],
                      ("press", 0), b"undo", [["latched"]]):
            self.unchanged(desk, value, "unknown command")

    def test_numbers_of_ten_digits_and_of_eleven(self):
        desk = Desk(bare_panel(10), ())
        for digits in range(2, 11):
            for number in ("1" + "0" * (digits - 1), "9" * digits):
                self.unchanged(desk, f"press {number}", "error NoButton")
                self.unchanged(desk, f"link 0 {number}", "error NoButton")
                self.unchanged(desk, f"unlink {number} 0", "error NoButton")
        for digits in (11, 12, 20, 40, 1000):
            for number in ("1" + "0" * (digits - 1), "9" * digits, "0" * digits):
                self.unchanged(desk, f"press {number}", "unknown command")
                self.unchanged(desk, f"link 0 {number}", "unknown command")
                self.unchanged(desk, f"unlink {number} 0", "unknown command")

    def test_leading_zeros(self):
        desk = Desk(bare_panel(10), ())
        for zeros in range(1, 12):
            for button in (0, 1, 9, 10):
                self.unchanged(desk, f"press {'0' * zeros}{button}", "unknown command")
                self.unchanged(desk, f"link {'0' * zeros}{button} 2", "unknown command")
                self.unchanged(desk, f"way {'0' * zeros}{button}", "unknown command")

    def test_a_sign_put_in_left_out_or_replaced(self):
        right = {"undo", "latched", "held", "panel", "way none", "way 0 2", "way 1", "way 0",
                 "way 2", "way 0 1", "way 1 2", "way 0 1 2"}
        for line in ("press 0", "link 0 2", "unlink 2 1", "undo", "latched", "held", "panel",
                     "way 0 2", "way none"):
            for at, sign in itertools.product(range(len(line) + 1), " 019-+\n,>x"):
                for other in (line[:at] + sign + line[at:], line[:at] + sign + line[at + 1:],
                              line[:at] + line[at + 1:]):
                    desk = Desk(P, (1,))
                    desk.press(2)
                    answer = Shell(desk).execute(other)
                    if other in right:
                        self.assertNotEqual(answer, "unknown command", other)
                        continue
                    words = other.split(" ")
                    numbers = [word for word in words[1:] if word.isdigit() and len(word) < 11
                               and str(int(word)) == word]
                    known = (words[0] == "press" and len(words) == 2
                             or words[0] in ("link", "unlink") and len(words) == 3)
                    known = known and len(numbers) == len(words) - 1
                    self.same(answer == "unknown command", not known, other)


class SeveralShellsTest(ShellChecks, unittest.TestCase):
    def test_two_shells_on_one_desk(self):
        for make in DESKS:
            desk = make(P, (1,))
            one, other = Shell(desk), Shell(desk)
            self.answers(one, "press 0", "ok 1")
            self.answers(other, "latched", "0")
            self.answers(other, "press 2", "ok 2")
            self.answers(one, "latched", "2")
            self.same(desk.press(1), 3)
            self.answers(one, "undo", "ok 2")
            self.answers(other, "undo", "ok 1")
            self.shows(desk, P, (1,), [("press", 0)])

    def test_this_very_desk(self):
        desk, twin = Desk(P, (1,)), Desk(P, (1,))
        shell = Shell(desk)
        self.answers(shell, "press 0", "ok 1")
        self.shows(twin, P, (1,), [])
        twin.press(2)
        self.answers(shell, "latched", "0")

    def test_shells_on_two_desks(self):
        one, other = Shell(Desk(P, (1,))), Shell(Desk(Q, (3,)))
        self.answers(one, "press 0", "ok 1")
        self.answers(other, "panel", "0>1 1>2 2>0 3>0")
        self.answers(other, "latched", "3")
        self.answers(other, "undo", "error NothingToUndo")
        self.answers(one, "undo", "ok 0")


class WatchedTest(ShellChecks, unittest.TestCase):
    EDITS = [("press", 0), ("link", 0, 2), ("press", 2)]
    CHANGES = ("press 0", "press 3", "press 9999999999", "link 0 1", "link 1 2", "link 0 0",
               "link 9 9", "unlink 0 1", "unlink 2 2", "unlink 0 9", "undo")

    def test_commands_while_a_watch_runs(self):
        for make in DESKS:
            desk = make(P, (1,))
            shell, seen = Shell(desk), []

            def watch(busy):
                for line in self.CHANGES:
                    self.unchanged(desk, line, "error Busy", shell)
                    self.unchanged(desk, line, "error Busy")
                for line in UNKNOWN_LINES[::3]:
                    self.unchanged(desk, line, "unknown command", shell)
                seen.append([shell.execute(line) for line in ("latched", "held", "panel",
                                                              "way 0", "way 0 1", "way 2")])
            self.same(desk.attempt(self.EDITS, watch=watch), 3)
            self.same(seen, [
                ["0", "none", "0>1 1>0 2>0,1", "none", "never", "2"],
                ["0", "none", "0>1,2 1>0 2>0,1", "none", "never", "2"],
                ["2", "none", "0>1,2 1>0 2>0,1", "0", "never", "none"],
            ])
            self.answers(shell, "undo", "ok 2")

    def test_shell_on_another_desk(self):
        for make in DESKS:
            desk, other = make(P, (1,)), make(P, (1,))
            shell, answers = Shell(other), []

            def watch(busy):
                answers.extend(shell.execute(line) for line in ("press 0", "undo", "press 2"))
            self.same(desk.attempt(self.EDITS, watch=watch), 3)
            self.same(answers, ["ok 1", "ok 0", "ok 1", "ok 2", "ok 1", "ok 2", "ok 3", "ok 2",
                                "ok 3"])
            self.shows(desk, P, (1,), self.EDITS)
            self.shows(other, P, (1,), [("press", 2)] * 3)

    def test_after_a_watch_that_raised_an_error(self):
        desk = Desk(P, (1,))
        shell = Shell(desk)

        def watch(busy):
            self.answers(shell, "press 0", "error Busy")
            raise KeyError
        with self.assertRaises(KeyError):
            desk.attempt(self.EDITS, watch=watch)
        self.answers(shell, "latched", "1")
        self.answers(shell, "undo", "error NothingToUndo")
        self.answers(shell, "press 0", "ok 1")

    def test_batches_and_lines(self):
        for make in DESKS:
            desk = make(P, (1,))
            shell = Shell(desk)
            self.answers(shell, "press 0", "ok 1")
            desk.attempt(self.EDITS)
            self.answers(shell, "undo", "ok 3")
            self.answers(shell, "undo", "ok 2")
            do(desk, ("press", 1))
            self.answers(shell, "undo", "ok 2")
            self.shows(desk, P, (1,), [("press", 0), ("press", 0)])
