"""The interface: each function stands in the file that is named there, with its parameters."""

import importlib
import inspect
import unittest

INTERFACE = {
    "panels": (
        "is_panel(value)", "panel_error(value)", "releasers_of(panel, button)",
        "press_button(panel, state, button)", "run(panel, state, value)",
    ),
    "effects": (
        "effect_of(panel, row)", "plain_row(row)", "find_difference(panel, row, other)",
        "shortest_row(panel, row)", "row_for(panel, value)", "count_effects(panel)",
        "all_effects(panel)",
    ),
    "reaching": (
        "find_round(panel, state)", "held_buttons(panel, state)", "can_reach(panel, start, goal)",
        "find_certificate(panel, start, goal)", "certificate_holds(panel, start, goal, value)",
        "shortest_way(panel, start, goal)", "reachable_states(panel, start)",
        "sources_of(panel, goal)",
    ),
    "resets": (
        "is_reset(panel, row)", "shortest_reset(panel)", "reset_to(panel, goal)",
        "states_after(panel, states, row)",
    ),
    "changes": (
        "linked(panel, one, other)", "unlinked(panel, one, other)", "renamed(panel, names)",
        "without_button(panel, button)", "beside(*panels)",
    ),
    "texts": (
        "panel_text(panel)", "row_text(row)", "parse_panel(value)", "parse_row(panel, value)",
    ),
}

CLASSES = {
    ("desks", "Desk"): (
        "__init__(self, panel, state)", "press(self, button)", "link(self, one, other)",
        "unlink(self, one, other)", "undo(self)", "attempt(self, edits, *, watch=None)",
        "state(self, *, version=None)", "way_to(self, goal, *, version=None)",
        "walk(self, goal)", "edits(self)", "read(cls, text)", "__len__(self)", "__str__(self)",
        "__eq__(self, other)",
    ),
    ("desks", "Guess"): ("__init__(self, panel)", "note(self, button)"),
    ("desks", "GuessDesk"): ("__init__(self, panel, state)", "note(self, button)"),
    ("shells", "Shell"): ("__init__(self, desk)", "execute(self, line)"),
}

ATTRIBUTES = {
    ("desks", "Desk"): ("panel", "latched", "held", "MOST_EDITS"),
    ("desks", "Guess"): ("known",),
    ("desks", "GuessDesk"): ("panel", "latched", "held", "MOST_EDITS", "known"),
}


def defined(module, name):
    return getattr(importlib.import_module(f"pressrelease.{module}"), name)


class InterfaceTest(unittest.TestCase):
    def test_functions(self):
        for name, functions in INTERFACE.items():
            module = importlib.import_module(f"pressrelease.{name}")
            for wanted in functions:
                function = getattr(module, wanted.partition("(")[0])
                self.assertTrue(inspect.isfunction(function))
                self.assertEqual(function.__module__, module.__name__)
                self.assertEqual(f"{function.__name__}{inspect.signature(function)}", wanted)

    def test_classes(self):
        for (module, name), methods in CLASSES.items():
            found = defined(module, name)
            self.assertTrue(inspect.isclass(found))
            self.assertEqual(found.__module__, f"pressrelease.{module}")
            self.assertEqual(found.__name__, name)
            for wanted in methods:
                # In the class itself: a method that is only inherited is not in vars.
                method = vars(found)[wanted.partition("(")[0]]
                method = getattr(method, "__func__", method)
                self.assertTrue(inspect.isfunction(method), wanted)
                self.assertEqual(f"{method.__name__}{inspect.signature(method)}", wanted)

    def test_class_method(self):
        self.assertIsInstance(vars(defined("desks", "Desk"))["read"], classmethod)

    def test_attributes_of_new_objects(self):
        for (module, name), attributes in ATTRIBUTES.items():
            values = (((1,), ()),) if name == "Guess" else (((1,), ()), (0,))
            made = defined(module, name)(*values)
            for attribute in attributes:
                self.assertFalse(callable(getattr(made, attribute)), (name, attribute))

    def test_keywords_behind_the_star_only(self):
        desk = defined("desks", "Desk")(((1,), ()), (0,))
        for call in (
            lambda: desk.attempt([], None), lambda: desk.state(0), lambda: desk.way_to((), 0),
        ):
            self.assertRaises(TypeError, call)
