"""Point 14: texts of panels and rows, and back again."""

import itertools
import re
import unittest

from pressrelease.errors import BadText
from pressrelease.panels import is_panel
from pressrelease.texts import panel_text, parse_panel, parse_row, row_text
from tests.support import (
    ALONE, HUGE, NO_NUMBERS, P, Q, Checks, Draws, all_states, bare_panel, drawn_panels, full_panel,
    plain_rows, round_panel, sample_panels, sample_row, small_panels,
)

NUMBER = "(?:0|[1-9][0-9]*)"
LIST = re.compile(f"({NUMBER})>((?:{NUMBER}(?:,{NUMBER})*)?)")
SIGNS = " ,>0123459-+\n.xn_"
NO_TEXTS = tuple(value for value in NO_NUMBERS if not isinstance(value, str)) + (
    0, 1, -1, HUGE, P, ["0>"], ("0>",), {"0>": "0>"}, (("0",),), ["0", "1"], {"none": None},
)


def told_list(word, index, many):
    """The list, read as point 14 says, or None."""
    found = LIST.fullmatch(word)
    if found is None or int(found[1]) != index:
        return None
    row = tuple(int(number) for number in found[2].split(",") if number)
    ascending = all(one < other for one, other in zip(row, row[1:]))
    return row if ascending and index not in row and all(c < many for c in row) else None


def told_panel_or_index(text):
    words = text.split(" ")
    lists = [told_list(word, index, len(words)) for index, word in enumerate(words)]
    wrong = [at for at, row in enumerate(lists) if row is None or at == 10]
    return wrong[0] if wrong else tuple(lists)


def told_row_or_index(many, text):
    if text == "none":
        return ()
    words = text.split(" ")
    for at, word in enumerate(words):
        if re.fullmatch(NUMBER, word) is None or int(word) >= many or at == 60:
            return at
    return tuple(int(word) for word in words)


def with_other_signs(text):
    """A sign put in, left out or replaced, anywhere."""
    for at in range(len(text) + 1):
        yield text[:at] + text[at + 1:]
        for sign in SIGNS:
            yield text[:at] + sign + text[at:]
            yield text[:at] + sign + text[at + 1:]


def with_other_words(text):
    """Words removed, repeated and moved."""
    words = text.split(" ")
    for at in range(len(words)):
        yield " ".join(words[:at] + words[at + 1:])
        for to in range(len(words) + 1):
            yield " ".join(words[:to] + [words[at]] + words[to:])
            left = words[:at] + words[at + 1:]
            yield " ".join(left[:to] + [words[at]] + left[to:])
    yield " ".join(words[::-1])


class TextsTest(Checks, unittest.TestCase):
    def test_example(self):
        self.example("""
            >>> from pressrelease.texts import panel_text, row_text
            >>> P = ((1,), (0,), (0, 1))
            >>> [panel_text(P), row_text((2, 0)), row_text(())]
            ['0>1 1>0 2>0,1', '2 0', 'none']
        """)

    def test_panels(self):
        self.same(self.call(panel_text, ALONE), "0>")
        self.same(self.call(panel_text, Q), "0>1 1>2 2>0 3>0")
        self.same(self.call(panel_text, bare_panel(10)), "0> 1> 2> 3> 4> 5> 6> 7> 8> 9>")
        self.same(self.call(panel_text, full_panel(4)), "0>1,2,3 1>0,2,3 2>0,1,3 3>0,1,2")
        for panel in sample_panels() + small_panels():
            words = [f"{button}>" + str(row)[1:-1].replace(" ", "").rstrip(",")
                     for button, row in enumerate(panel)]
            self.same(self.call(panel_text, panel), " ".join(words))

    def test_rows_and_states(self):
        self.same(self.call(row_text, (0,)), "0")
        self.same(self.call(row_text, (9,) * 60), " ".join("9" * 60))
        for row in plain_rows(4) + all_states(5) + [sample_row(10, 60), (1, 1, 0, 0)]:
            wanted = str(list(row))[1:-1].replace(",", "") or "none"
            self.same(self.call(row_text, row), wanted)


class ParsePanelTest(Checks, unittest.TestCase):
    def right(self, text):
        """What the text gives, told in another way; what is accepted has this very text."""
        wanted = told_panel_or_index(text)
        if isinstance(wanted, int):
            self.fails(BadText(wanted), parse_panel, text)
            return False
        panel = self.call(parse_panel, text)
        self.same(panel, wanted, text)
        self.same(is_panel(panel), True)
        self.same(panel_text(panel), text)
        return True

    def test_example(self):
        self.example("""
            >>> from pressrelease.texts import parse_panel
            >>> parse_panel('0>1 1>2')
            raises BadText(1)
        """)

    def test_undoes_panel_text(self):
        for panel in sample_panels() + small_panels() + drawn_panels(281, range(2, 11)):
            self.same(self.call(parse_panel, panel_text(panel)), panel)

    def test_texts_that_are_a_little_different(self):
        for panel in [ALONE, ((1,), ()), P, Q, ((), (0, 2, 3), (), (0, 2))]:
            text = panel_text(panel)
            changed = list(with_other_signs(text)) + list(with_other_words(text))
            accepted = [self.right(other) for other in changed]
            self.assertIn(False, accepted)
        for panel in (bare_panel(10), round_panel(10), full_panel(6)):
            for text in list(with_other_signs(panel_text(panel)))[::7]:
                self.right(text)
            for text in with_other_words(panel_text(panel)):
                self.right(text)

    def test_short_texts(self):
        for length in range(5):
            for signs in itertools.product("01>, ", repeat=length):
                self.right("".join(signs))

    def test_drawn_texts(self):
        draws = Draws(282)
        for _ in range(1500):
            text = "".join("0123> ,>"[draws.below(8)] for _ in range(draws.below(12)))
            self.right(text)

    def test_by_hand(self):
        for text, index in (
            ("", 0), (" ", 0), ("0", 0), (">", 0), ("0>0", 0), ("0>1", 0), ("0>,", 0),
            ("0>1, 1>", 0), ("0>,1 1>", 0), ("0>1,1 1>", 0), ("0>2,1 1> 2>", 0), ("00> 1>", 0),
            ("0>01 1>", 0), ("+0>", 0), ("-0>", 0), ("0>+1 1>", 0), ("0>-1 1>", 0), ("0>>", 0),
            ("0>1>0 1>", 0), ("0> 1>1", 1), ("0> 1>2", 1), ("0>  1>", 1), (" 0>", 0),
            ("0> ", 1), ("0>\n", 0), ("0>\n1>", 0), ("0> \n1>", 1), ("1>", 0), ("0> 0>", 1),
            ("0> 2> 1>", 1), ("none", 0), ("0>none", 0), ("0>1 1>0 2>0,1,2", 2),
            ("0>1.0 1>", 0), ("0>a 1>", 0), ("0> 1>00", 1), ("0 > 1>", 0), ("0>1 ,2 1> 2>", 1),
            ("0>" + "1" * 1990 + " 1>", 0), ("0" * 2000, 0), ("0>" + ",1" * 900, 0),
            ("0>1_0", 0), ("0>" + "9" * 5000, 0), ("9" * 6000 + ">", 0),
        ):
            self.fails(BadText(index), parse_panel, text)
        self.right("0>")
        self.right("0>1 1>0")

    def test_other_digits_than_ascii(self):
        for text in ("\u0660>", "0>\u0661 1>", "0>\u00b9 1>", "\uff10>"):
            self.fails(BadText(0), parse_panel, text)

    def test_ten_words_and_more(self):
        for many in (10, 11, 12, 15, 30, 61, 300):
            words = [f"{button}>" for button in range(many)]
            self.same(self.right(" ".join(words)), many == 10)
            for button in (0, 5, 9):
                for other in (9, 10, 11, 12, many - 1, many, many + 1):
                    changed = words[:button] + [f"{button}>{other}"] + words[button + 1:]
                    self.right(" ".join(changed))
            self.right(" ".join(words[:4] + ["x"] + words[5:]))
            self.right(" ".join(words[:many - 1] + ["x"]))

    def test_button_ten_with_eleven_words(self):
        words = [f"{button}>10" for button in range(10)]
        self.fails(BadText(10), parse_panel, " ".join(words + ["10>"]))
        self.fails(BadText(10), parse_panel, " ".join(words + [""]))
        self.fails(BadText(0), parse_panel, " ".join(words))
        self.fails(BadText(3), parse_panel, " ".join(words[:3] + ["3>11"] + words[4:] + ["10>"]))
        self.fails(BadText(10), parse_panel, " ".join(words[:3] + ["3>11"] + words[4:] + ["", ""]))
        self.fails(BadText(0), parse_panel, " ".join(["0>010"] + words[1:] + ["10>"]))

    def test_values_that_are_no_texts(self):
        for value in NO_TEXTS:
            self.fails(BadText(None), parse_panel, value)


class ParseRowTest(Checks, unittest.TestCase):
    def right(self, panel, text):
        wanted = told_row_or_index(len(panel), text)
        if isinstance(wanted, int):
            self.fails(BadText(wanted), parse_row, panel, text)
            return False
        row = self.call(parse_row, panel, text)
        self.same(row, wanted, text)
        self.same(row_text(row), text)
        return True

    def test_example(self):
        self.example("""
            >>> from pressrelease.texts import parse_row
            >>> P = ((1,), (0,), (0, 1))
            >>> [parse_row(P, '2 0'), parse_row(P, 'none')]
            [(2, 0), ()]
        """)

    def test_undoes_row_text(self):
        draws = Draws(283)
        for panel in sample_panels():
            many = len(panel)
            rows = [draws.row(many, length) for length in (0, 1, 2, 5, 59, 60)]
            for row in rows + [(many - 1,), (0,) * 60, tuple(range(many))]:
                self.same(self.call(parse_row, panel, row_text(row)), row)
        for row in plain_rows(4):
            self.same(self.call(parse_row, Q, row_text(row)), row)

    def test_texts_that_are_a_little_different(self):
        for panel in (ALONE, P, bare_panel(10)):
            many = len(panel)
            for row in ((), (0,), (many - 1, 0), sample_row(many, 7)):
                text = row_text(row)
                for other in (*with_other_signs(text), *with_other_words(text)):
                    self.right(panel, other)

    def test_short_texts(self):
        for length in range(6):
            for signs in itertools.product("012 ", repeat=length):
                self.right(((), ()), "".join(signs))

    def test_by_hand(self):
        for text, index in (
            ("", 0), (" ", 0), ("3", 0), ("0 3", 1), ("10", 0), ("00", 0), ("01", 0), ("0 01", 1),
            ("+1", 0), ("-1", 0), ("-0", 0), ("0  1", 1), (" 0", 0), ("0 ", 1), ("0\n", 0),
            ("0\n1", 0), ("0 1\n", 1), ("none ", 0), (" none", 0), ("none none", 0), ("0 none", 1),
            ("none 0", 0), ("None", 0), ("NONE", 0), ("none\n", 0), ("0,1", 0), ("0>", 0),
            ("1.0", 0), ("a", 0), ("()", 0), ("1" * 2000, 0), ("0 " * 20, 20), ("9" * 6000, 0),
            ("\u0661", 0), ("\u00b9", 0), ("1_0", 0), ("True", 0),
        ):
            self.fails(BadText(index), parse_row, P, text)

    def test_sixty_words_and_more(self):
        for many in (59, 60, 61, 62, 100, 900):
            for word in ("0", "2"):
                self.same(self.right(P, " ".join([word] * many)), many <= 60)
                for at in (0, 30, 58, 59, 60, 61, many - 1):
                    if at < many:
                        words = [word] * many
                        words[at] = "3"
                        self.right(P, " ".join(words))
        self.fails(BadText(60), parse_row, P, " ".join(["0"] * 61))
        self.fails(BadText(60), parse_row, P, " ".join(["0"] * 60 + ["x"]))
        self.fails(BadText(60), parse_row, P, " ".join(["0"] * 60) + " ")
        self.fails(BadText(59), parse_row, P, " ".join(["0"] * 59 + ["3", "0"]))

    def test_buttons_of_the_panel_only(self):
        for many in range(1, 11):
            for number in range(13):
                self.same(self.right(bare_panel(many), str(number)), number < many)

    def test_values_that_are_no_texts(self):
        for panel in (ALONE, P, bare_panel(10)):
            for value in NO_TEXTS:
                self.fails(BadText(None), parse_row, panel, value)
