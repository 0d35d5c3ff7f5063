"""Point 4: panels, and which buttons release which."""

import unittest

from pressrelease.panels import is_panel, panel_error, releasers_of
from tests.support import (
    ALONE, HUGE, NO_NUMBERS, P, Q, Checks, bare_panel, full_panel, no_buttons, sample_panels,
    small_panels,
)


def with_item(panel, index, item):
    return panel[:index] + (item,) + panel[index + 1:]


class PanelErrorTest(Checks, unittest.TestCase):
    def right(self, value):
        self.same(self.call(panel_error, value), None)
        self.same(self.call(is_panel, value), True)

    def wrong(self, value, error):
        self.same(self.call(panel_error, value), error, value)
        self.same(self.call(is_panel, value), False, value)

    def test_example(self):
        self.example("""
            >>> from pressrelease.panels import is_panel, panel_error
            >>> P = ((1,), (0,), (0, 1))
            >>> [is_panel(P), panel_error(((0,),)), panel_error(((1,), (2,)))]
            [True, (0, 'itself'), (1, 'list')]
        """)

    def test_panels(self):
        for panel in sample_panels() + small_panels():
            self.right(panel)

    def test_not_a_tuple_of_one_to_ten(self):
        for value in NO_NUMBERS:
            if not isinstance(value, tuple) or value == ():
                self.wrong(value, (None, "panel"))
        for value in (0, 1, 3, -1, HUGE, list(P), [[]], [(1,), (0,)], {"0": (1,)}, "0>1 1>0"):
            self.wrong(value, (None, "panel"))
        for many in (11, 12, 20, 61, 1000):
            self.wrong(bare_panel(many), (None, "panel"))
            self.wrong((None,) * many, (None, "panel"))

    def test_eleven_lists_and_ten(self):
        self.right(full_panel(10))
        self.wrong(full_panel(11), (None, "panel"))

    def test_length_before_items(self):
        self.wrong(with_item(bare_panel(11), 0, (0,)), (None, "panel"))
        self.wrong(with_item(bare_panel(11), 10, None), (None, "panel"))
        self.wrong([(0,)], (None, "panel"))

    def test_item_that_is_no_tuple(self):
        for panel in (ALONE, P, Q, full_panel(10)):
            for index in range(len(panel)):
                for item in NO_NUMBERS + (0, 1, HUGE, list(panel[index]), [1, 0]):
                    if not isinstance(item, tuple):
                        self.wrong(with_item(panel, index, item), (index, "list"))

    def test_item_with_something_that_is_no_button(self):
        for panel in (ALONE, P, Q, full_panel(10)):
            for index in range(len(panel)):
                for value in no_buttons(len(panel)):
                    self.wrong(with_item(panel, index, (value,)), (index, "list"))
                    self.wrong(with_item(panel, index, panel[index] + (value,)), (index, "list"))
                    self.wrong(with_item(panel, index, (value,) + panel[index]), (index, "list"))

    def test_item_that_is_not_ascending(self):
        for item in ((1, 1), (2, 1), (1, 2, 2), (1, 1, 2), (1, 3, 2), (3, 2, 1), (2, 3, 1)):
            self.wrong((item, (), (), ()), (0, "list"))
            self.wrong(((), (), (), (), item), (4, "list"))

    def test_item_with_the_last_button(self):
        self.right(((), (2,), (), (2,)))
        self.right(((3,), (), (), ()))
        self.wrong(((4,), (), (), ()), (0, "list"))
        self.right(with_item(bare_panel(10), 0, (9,)))
        self.wrong(with_item(bare_panel(10), 0, (10,)), (0, "list"))
        self.wrong(with_item(bare_panel(9), 0, (9,)), (0, "list"))

    def test_item_with_itself(self):
        for many in range(1, 11):
            for index in range(many):
                self.wrong(with_item(bare_panel(many), index, (index,)), (index, "itself"))
                self.wrong(
                    with_item(full_panel(many), index, tuple(range(many))), (index, "itself")
                )

    def test_list_before_itself_in_one_item(self):
        self.wrong(((0, 0), ()), (0, "list"))
        self.wrong(((1, 0), ()), (0, "list"))
        self.wrong(((0, 2), ()), (0, "list"))
        self.wrong(((0, None), ()), (0, "list"))
        self.wrong(((), [1]), (1, "list"))
        self.wrong(((), (0, 1, True)), (1, "list"))
        self.wrong(((), (-1, 1)), (1, "list"))

    def test_first_of_two_wrong_items(self):
        self.wrong(((0,), (2,)), (0, "itself"))
        self.wrong(((2,), (1,)), (0, "list"))
        self.wrong(((1,), (1,), None), (1, "itself"))
        self.wrong(((1,), None, (2,)), (1, "list"))
        self.wrong(((), (), (2,), (3,)), (2, "itself"))
        self.wrong(((), (), [], []), (2, "list"))

    def test_true_is_not_one(self):
        for _ in range(3):
            self.right(((1,), (0,)))
            self.wrong(((True,), (0,)), (0, "list"))
            self.wrong(((1,), (False,)), (1, "list"))
            self.wrong(((True,), (False,)), (0, "list"))
            self.right(((1,), (0,)))
            self.right(P)
            self.wrong(((1,), (0,), (False, True)), (2, "list"))
            self.wrong(((1,), (0,), (0, True)), (2, "list"))
            self.wrong(((1,), (0,), (False, 1)), (2, "list"))
            self.right(P)
        self.wrong(((False,),), (0, "list"))
        self.wrong(((), (True,)), (1, "list"))


class ReleasersTest(Checks, unittest.TestCase):
    def test_example(self):
        self.example("""
            >>> from pressrelease.panels import releasers_of
            >>> P = ((1,), (0,), (0, 1))
            >>> [releasers_of(P, 0), releasers_of(P, 2)]
            [(1, 2), ()]
        """)

    def test_some_by_hand(self):
        self.same(self.call(releasers_of, ALONE, 0), ())
        self.same([self.call(releasers_of, P, b) for b in range(3)], [(1, 2), (0, 2), ()])
        self.same(
            [self.call(releasers_of, Q, b) for b in range(4)], [(2, 3), (0,), (1,), ()]
        )
        self.same(self.call(releasers_of, full_panel(10), 9), (0, 1, 2, 3, 4, 5, 6, 7, 8))
        self.same(self.call(releasers_of, full_panel(10), 0), (1, 2, 3, 4, 5, 6, 7, 8, 9))
        self.same(self.call(releasers_of, bare_panel(10), 5), ())

    def test_all_buttons(self):
        for panel in sample_panels() + small_panels():
            pairs = {(one, other) for one, row in enumerate(panel) for other in row}
            for button in range(len(panel)):
                wanted = tuple(b for b in range(len(panel)) if (b, button) in pairs)
                self.same(self.call(releasers_of, panel, button), wanted, (panel, button))
