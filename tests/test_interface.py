"""What the interface lists stands where it says, with the names of the arguments that it says."""

import importlib
import inspect
import unittest

FUNCTIONS = {
    "expressions": {
        "is_name": "(text)", "expression_size": "(expression)", "value_of": "(expression, values, helpers=())",
        "replaced": "(expression, name, number)", "names_in": "(expression)", "calls_in": "(expression)",
    },
    "expressiontexts": {"write_expression": "(expression)", "read_expression": "(text)"},
    "programs": {"Program": "(name, given, cells, answers, procedures, body)", "Library": "(programs)"},
    "librarytexts": {"read_library": "(text)", "write_library": "(library)"},
    "codes": {"Code": "(given, cells, answers, lines, helpers=(), entry=0)", "started": "(code, state)"},
    "plain": {
        "all_states": "(code)", "start_state": "(code)", "next_state": "(code, given, state)",
        "end_number": "(code, given, state)", "describe_outcome": "(code, number)", "run_states": "(code, given, state)",
        "cycle_from": "(code, given, state)", "path_to": "(code, given, state)", "outcome": "(code, given, state=None)",
    },
    "compiling": {"code_of": "(library, name)", "line_sources": "(library, name)"},
    "slots": {
        "slots": "(code, line)", "finger_count": "(code, line)", "slot_finger": "(code, line, slot)",
        "finger_slot": "(code, line, finger)",
    },
    "fingers": {
        "across": "(code, given, state, finger)", "is_blind": "(code, given, state, finger)",
        "predecessors": "(code, given, state)",
    },
    "rotations": {"unused_fingers": "(code)", "Rotation": "(code, rows=None)", "lean_rotation": "(code)"},
    "running": {
        "rule_applies": "(book, given, state, rule)", "rule_result": "(book, given, state, rule)",
        "book_next": "(book, given, state)", "course": "(book, given, state=None)",
        "advance": "(book, given, state, steps)", "shown": "(book, given, state=None)",
    },
    "books": {"Book": "(given, cells, places, rules, helpers=(), first=0, last=1)"},
    "walkers": {
        "walker": "(code, *, rotation=None, homeward='tour')", "place_of": "(code, line, finger)",
        "finger_at": "(code, place)",
    },
    "walks": {
        "walk_outcome": "(code, given, *, rotation=None, homeward='tour')",
        "walk_steps": "(code, given, *, rotation=None, homeward='tour')",
    },
    "graphs": {
        "Graph": "(nexts, rotation=None)", "graph_predecessors": "(graph, node)", "graph_ends": "(graph)",
        "graph_component": "(graph, node)", "graph_cycles": "(graph)", "graph_across": "(graph, node, finger)",
        "graph_onward": "(graph, node, finger)", "graph_backward": "(graph, node, finger)",
        "graph_after": "(graph, node, finger)", "graph_before": "(graph, node, finger)", "graph_tour": "(graph, node, finger)",
        "graph_tours": "(graph)",
    },
    "tours": {
        "onward": "(code, given, state, finger, *, rotation=None)", "backward": "(code, given, state, finger, *, rotation=None)",
        "tour_from": "(code, given, state, finger, *, rotation=None)", "state_number": "(code, state)",
        "numbered_state": "(code, number)", "graph_of": "(code, given)",
    },
    "lookback": {
        "origins_book": "(code, state)", "origins": "(code, given, state)", "first_origins": "(code, given, state)",
        "comes_back": "(code, given, state)", "leads_to": "(code, given, one, two)", "givens_to": "(code, state)",
    },
    "clashes": {"find_clash": "(book)"},
    "basins": {"states_with_outcome": "(code, given, number)", "components": "(code, given)"},
    "debugging": {"Debugger": "(code, given, *, rotation=None)"},
    "booktexts": {"write_book": "(book)", "read_book": "(text)"},
}
METHODS = {
    ("programs", "Library", "named"): "(self, name)", ("codes", "Code", "call_value"): "(self, args)",
    ("rotations", "Rotation", "after"): "(self, line, finger)", ("rotations", "Rotation", "before"): "(self, line, finger)",
    ("books", "Book", "call_value"): "(self, args)", ("debugging", "Debugger", "forward"): "(self, steps=1)",
    ("debugging", "Debugger", "backward"): "(self, steps=1)", ("debugging", "Debugger", "go_to"): "(self, state, finger=0)",
    ("debugging", "Debugger", "go_home"): "(self)", ("debugging", "Debugger", "seek"): "(self, condition)",
    ("debugging", "Debugger", "seek_back"): "(self, condition)", ("debugging", "Debugger", "age"): "(self)",
    ("debugging", "Debugger", "outcome"): "(self)", ("debugging", "Debugger", "snapshot"): "(self)",
}
PROPERTIES = (
    ("codes", "Code", "state_count"), ("books", "Book", "start"), ("books", "Book", "room"), ("debugging", "Debugger", "state"),
    ("debugging", "Debugger", "finger"),
)
OPERATORS = {
    ("programs", "Program"): ("eq",), ("programs", "Library"): ("eq", "len", "iter", "contains"), ("codes", "Code"): ("eq",),
    ("rotations", "Rotation"): ("eq",), ("books", "Book"): ("eq", "len", "iter", "invert"),
}
GENERATORS = (
    ("plain", "all_states"), ("tours", "tour_from"), ("running", "shown"), ("lookback", "origins"), ("lookback", "first_origins"),
    ("basins", "states_with_outcome"),
)


def member(file, owner):
    return getattr(importlib.import_module(f"sameroom.{file}"), owner)


class InterfaceTest(unittest.TestCase):
    def test_functions_and_classes(self):
        for file, names in FUNCTIONS.items():
            module = importlib.import_module(f"sameroom.{file}")
            for name, signature in names.items():
                self.assertEqual(str(inspect.signature(getattr(module, name))), signature, name)
                self.assertEqual(getattr(module, name).__module__, f"sameroom.{file}", name)

    def test_methods(self):
        for (file, owner, name), signature in METHODS.items():
            method = vars(member(file, owner))[name]
            self.assertEqual(str(inspect.signature(method)), signature, name)
        made = vars(member("debugging", "Debugger"))["from_snapshot"]
        self.assertIsInstance(made, classmethod)
        self.assertEqual(str(inspect.signature(made.__func__)), "(cls, code, given, snapshot, *, rotation=None)")

    def test_properties_and_operators(self):
        for file, owner, name in PROPERTIES:
            self.assertIsInstance(vars(member(file, owner))[name], property, name)
        for (file, owner), names in OPERATORS.items():
            for name in names:
                self.assertIn(f"__{name}__", vars(member(file, owner)))

    def test_generators(self):
        for file, name in GENERATORS:
            self.assertTrue(inspect.isgeneratorfunction(member(file, name)), name)


if __name__ == "__main__":
    unittest.main()
