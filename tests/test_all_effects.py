"""Points 6 and 7: which tuples of words are effects, rows for them, and all of them."""

import itertools
import unittest

from pressrelease.effects import all_effects, count_effects, effect_of, row_for
from pressrelease.errors import TooLarge
from tests.support import (
    ALONE, HUGE, NO_NUMBERS, P, Q, Checks, Draws, bare_panel, down_panel, drawn_panels,
    effect_bits, full_panel, mixed_panel, plain_rows, round_panel, rows_by_effect, sample_panels,
    sample_row, small_panels, told_effect,
)

WORDS = ("off", "on", "same")


def has_round(panel, buttons):
    """Whether some button comes back to itself along releases within the buttons."""
    for first in buttons:
        met = set()
        waiting = [first]
        while waiting:
            for other in panel[waiting.pop()]:
                if other in buttons and other not in met:
                    met.add(other)
                    waiting.append(other)
        if first in met:
            return True
    return False


def is_told_effect(panel, words):
    """The conditions of point 7."""
    on, off, same = (
        [button for button, word in enumerate(words) if word == wanted]
        for wanted in ("on", "off", "same")
    )
    if has_round(panel, on):
        return False
    if any(other in same for button in on for other in panel[button]):
        return False
    gathered = {button for button in off if any(button in panel[other] for other in on)}
    while True:
        useful = [one for one in gathered if not any(other in same for other in panel[one])]
        more = {button for button in off if any(button in panel[one] for one in useful)}
        if more <= gathered:
            return gathered == set(off)
        gathered |= more


def listed_effects(panel):
    return {told_effect(panel, row) for row in plain_rows(len(panel))}


class RowForTest(Checks, unittest.TestCase):
    def test_example(self):
        self.example("""
            >>> from pressrelease.effects import effect_of, row_for
            >>> P = ((1,), (0,), (0, 1))
            >>> [effect_of(P, row_for(P, ('off', 'on', 'on'))), row_for(P, ('on', 'on', 'same'))]
            [('off', 'on', 'on'), None]
        """)

    def right(self, panel, words, is_effect):
        row = row_for(panel, words)
        if not is_effect:
            self.assertIsNone(row, (panel, words))
            return
        self.assertIsInstance(row, tuple)
        self.no_button_twice(row)
        self.same(sorted(set(row) - set(range(len(panel)))), [])
        self.same(told_effect(panel, row), words, panel)

    def test_all_tuples_of_words_on_small_panels(self):
        for panel in small_panels() + drawn_panels(81, (4,), each=2) + drawn_panels(82, (5,), 1):
            listed = listed_effects(panel)
            for words in itertools.product(WORDS, repeat=len(panel)):
                self.assertEqual(is_told_effect(panel, words), words in listed)
                self.right(panel, words, words in listed)

    def test_six_and_seven_buttons(self):
        for panel in drawn_panels(83, (6, 7), each=1):
            for words in list(itertools.product(WORDS, repeat=len(panel)))[::3]:
                self.right(panel, words, is_told_effect(panel, words))

    def test_eight_to_ten_buttons(self):
        draws = Draws(84)
        for panel in sample_panels()[-17:] + drawn_panels(85, (8, 9, 10), each=1):
            many = len(panel)
            listed = rows_by_effect(panel)
            for words in [told_effect(panel, draws.row(many, length)) for length in range(12)]:
                self.right(panel, words, True)
                for at in range(many):
                    for word in WORDS:
                        other = words[:at] + (word,) + words[at + 1:]
                        self.right(panel, other, effect_bits(other) in listed)

    def test_each_effect_of_a_row(self):
        for panel in sample_panels():
            for length in (0, 1, 2, 5, 60):
                effect = effect_of(panel, sample_row(len(panel), length))
                row = self.call(row_for, panel, effect)
                self.no_button_twice(row)
                self.same(effect_of(panel, row), effect)

    def test_by_hand(self):
        self.same(self.call(row_for, ALONE, ("same",)), ())
        self.same(self.call(row_for, ALONE, ("on",)), (0,))
        self.same(self.call(row_for, ALONE, ("off",)), None)
        self.same(self.call(row_for, round_panel(10), ("on",) * 10), None)
        self.same(self.call(row_for, round_panel(10), ("off",) * 10), None)
        self.right(round_panel(10), ("off",) + ("on",) * 9, True)
        # Each button but 0 must be pressed before the one that releases it.
        self.right(round_panel(10), ("on",) + ("off",) * 9, True)
        self.right(round_panel(10), ("on", "off", "same") + ("off",) * 7, False)

    def test_wrong_number_of_words(self):
        for panel in (ALONE, P, Q, full_panel(7), bare_panel(10)):
            many = len(panel)
            for word in WORDS:
                for length in (many - 1, many + 1, 2 * many, 61, 1000):
                    self.same(self.call(row_for, panel, (word,) * length), None)
            self.same(self.call(row_for, panel, ()), None)

    def test_other_items(self):
        others = NO_NUMBERS + (
            0, 1, -1, HUGE, "ON", "On", "on ", "o", "n", "of", "offs", "sam", "same\n", "on off",
            ("on",), ["on"], {"on": "on"}, [], {}, ("on", []), ({"a": []},),
        )
        for panel in (ALONE, P, Q, full_panel(10), bare_panel(10)):
            many = len(panel)
            right = effect_of(panel, (many - 1,))
            self.assertIsNotNone(row_for(panel, right))
            for at in range(many):
                for other in others:
                    value = right[:at] + (other,) + right[at + 1:]
                    self.same(self.call(row_for, panel, value), None)

    def test_other_values(self):
        for panel in (ALONE, P, Q, mixed_panel(10)):
            right = effect_of(panel, (0,))
            others = NO_NUMBERS + (
                0, 1, 3, -1, HUGE, "on", "same", "on off same", list(right), (right,), [right],
                {"on": right}, dict.fromkeys(right, "on"), "".join(right), repr(right),
                ([],) * len(panel), ({},) * len(panel), (right,) * len(panel),
            )
            for value in others:
                self.same(self.call(row_for, panel, value), None)


class AllEffectsTest(Checks, unittest.TestCase):
    def test_example(self):
        self.example("""
            >>> from pressrelease.effects import all_effects, count_effects
            >>> P = ((1,), (0,), (0, 1))
            >>> [count_effects(P), all_effects(((),))]
            [6, (('on',), ('same',))]
        """)

    def right(self, panel, wanted):
        got = self.call(all_effects, panel)
        self.ascending(got)
        self.same(got, tuple(sorted(wanted)), panel)
        self.same(self.call(count_effects, panel), len(wanted), panel)

    def test_by_hand(self):
        self.right(ALONE, {("on",), ("same",)})
        self.right(((1,), ()), {("same", "same"), ("on", "off"), ("on", "on"), ("same", "on")})
        self.right(((1,), (0,)), {("same", "same"), ("on", "off"), ("off", "on")})

    def test_listing_on_small_panels(self):
        for panel in small_panels() + drawn_panels(86, (4, 5), each=2):
            self.right(panel, listed_effects(panel))

    def test_listing_with_six_and_seven_buttons(self):
        for panel in (mixed_panel(6), round_panel(6), drawn_panels(87, (7,), each=1)[1]):
            self.right(panel, listed_effects(panel))

    def test_conditions_of_point_seven(self):
        for panel in sample_panels(7) + drawn_panels(88, (6, 7), each=1):
            products = itertools.product(WORDS, repeat=len(panel))
            self.right(panel, {words for words in products if is_told_effect(panel, words)})

    def test_no_links_and_all_links(self):
        for many in range(1, 8):
            self.same(self.soon(count_effects, bare_panel(many)), 2 ** many)
            self.same(self.soon(count_effects, full_panel(many)), many + 1)
            self.same(self.soon(count_effects, down_panel(many)), 2 ** many)
            self.ascending(self.soon(all_effects, bare_panel(many)))
            self.ascending(self.soon(all_effects, full_panel(many)))

    def test_too_large(self):
        for many in (8, 9, 10):
            panels = [make(many) for make in (bare_panel, full_panel, round_panel, mixed_panel)]
            for panel in panels + drawn_panels(89, (many,), each=1):
                self.fails(TooLarge(7), all_effects, panel)
                self.fails(TooLarge(7), count_effects, panel)
