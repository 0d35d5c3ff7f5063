"""The interface: each function stands in the file that is named there, with its parameters."""

import importlib
import inspect
import unittest

INTERFACE = {
    "panels": (
        "is_panel(value)", "panel_error(value)", "releasers_of(panel, button)",
        "press_button(panel, state, button)", "run(panel, state, value)",
    ),
    "effects": (
        "effect_of(panel, row)", "plain_row(row)", "find_difference(panel, row, other)",
        "shortest_row(panel, row)", "row_for(panel, value)", "count_effects(panel)",
        "all_effects(panel)",
    ),
    "reaching": (
        "find_round(panel, state)", "held_buttons(panel, state)", "can_reach(panel, start, goal)",
        "find_certificate(panel, start, goal)", "certificate_holds(panel, start, goal, value)",
        "shortest_way(panel, start, goal)", "reachable_states(panel, start)",
        "sources_of(panel, goal)",
    ),
    "resets": (
        "is_reset(panel, row)", "shortest_reset(panel)", "reset_to(panel, goal)",
        "states_after(panel, states, row)",
    ),
}


class InterfaceTest(unittest.TestCase):
    def test_functions(self):
        for name, functions in INTERFACE.items():
            module = importlib.import_module(f"pressrelease.{name}")
            for wanted in functions:
                function = getattr(module, wanted.partition("(")[0])
                self.assertTrue(inspect.isfunction(function))
                self.assertEqual(function.__module__, module.__name__)
                self.assertEqual(f"{function.__name__}{inspect.signature(function)}", wanted)
