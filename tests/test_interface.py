"""Names, arguments and places of what the interface lists."""

import importlib
import inspect
import unittest

FUNCTIONS = {
    "things": {"is_fold": ["one", "other", "states", "deeds", "answers"]},
    "makers": {"box": ["names"], "keep": ["names"], "swap": ["names"], "counter": ["size"], "ladder": ["size"],
               "is_box": ["thing"]},
    "telling": {
        "tells": ["layout"], "blot": ["layout"], "is_blot": ["layout", "value"], "blotted": ["layout"],
        "shortest_blot": ["layout"], "verdict": ["layout", "hand", "mark"], "verdicts": ["layout"],
        "answers_tell": ["layout", "hand"], "states_tell": ["layout"], "commute": ["thing", "state", "one", "other"],
        "covers": ["thing", "state", "one", "other"], "is_unseen": ["thing", "state", "one", "other"],
    },
    "power": {
        "telling_layouts": ["thing", "number"], "how_many": ["thing", "number"], "first_layout": ["thing", "number"],
        "power": ["thing"], "serving": ["thing", "number"], "least_deeds": ["thing", "number"],
        "most": ["thing", "state", "one", "other"], "endless": ["thing"], "is_endless": ["thing"],
        "least_bars": ["thing", "number"], "bars": ["thing", "number"], "are_bars": ["thing", "number", "value"],
    },
    "weavings": {
        "behind": ["program", "weaving"], "can_step": ["program", "weaving"], "named": ["program", "weaving"],
        "is_bad": ["program", "weaving"], "is_right": ["program"], "quarrel": ["program"],
        "is_quarrel": ["program", "value"], "shortest_quarrel": ["program"], "how_many_full": ["program"],
        "full_at": ["program", "place"], "most_steps": ["program"], "all_names": ["program"],
    },
    "places": {
        "outcomes": ["program", "weaving"], "is_open": ["program", "weaving"], "critical": ["program"],
        "is_critical": ["program", "value"], "least_critical": ["program"], "longest_open": ["program"],
        "next_names": ["program", "weaving"], "layout_at": ["program", "weaving"],
    },
    "building": {
        "program_of": ["layout"], "settle": ["thing", "number"], "settle_by": ["things", "number"],
        "is_made_of": ["program", "things"], "trimmed": ["program"], "exchanged": ["program", "order"],
        "steps_of": ["program", "hand"],
    },
    "falls": {
        "records": ["layout"], "fall_blot": ["layout"], "is_fall_blot": ["layout", "value"],
        "recording": ["thing", "number"], "power_with_falls": ["thing"], "endless_with_falls": ["thing"],
        "behind_falls": ["program", "weaving"], "is_bad_with_falls": ["program", "weaving"],
        "is_right_with_falls": ["program"], "quarrel_with_falls": ["program"],
        "is_quarrel_with_falls": ["program", "value"], "shortest_with_falls": ["program"],
        "program_with_falls": ["layout"], "settle_with_falls": ["thing", "number"],
    },
    "texts": {
        "text_of": ["entry"], "bytes_of": ["entry"], "read_thing": ["text"], "read_layout": ["text"],
        "read_program": ["text"],
    },
    "claims": {
        "is_claim": ["value"], "is_true": ["claim"], "paper_of": ["claim"], "is_paper": ["claim", "value"],
    },
    "desk": {"tried": ["desk", "action"]},
}

CLASSES = {
    "things": {
        "Thing": {
            "__init__": ["deeds", "rows"], "rows": [], "__call__": ["state", "deed"], "run": ["state", "word"],
            "reached": ["state"], "part": ["state", "deeds"], "numbered": ["order"], "renamed": ["names"],
            "answered": ["answers"], "__or__": None, "__len__": None, "__contains__": None, "__eq__": None,
            "__repr__": None,
        },
    },
    "layouts": {
        "Layout": {
            "__init__": ["thing", "state", "first", "second"], "deed": ["hand"], "team": ["hand"], "orders": [],
            "how_many_orders": [], "behind": ["order"], "mark": ["hand", "order"], "marks": ["hand"],
            "ends": ["team"], "without": ["hand"], "with_hand": ["team", "deed"], "__invert__": [], "lesser": [],
            "is_within": ["other"], "is_ahead_of": ["other"], "__len__": None, "__eq__": None, "__repr__": None,
        },
    },
    "programs": {
        "Program": {"__init__": ["things", "scripts"], "script": ["hand"], "__len__": None, "__eq__": None},
    },
    "desk": {
        "Desk": {
            "__init__": ["thing"], "__getitem__": None, "__setitem__": None, "put": ["state", "deed", "entry"],
            "__iadd__": None, "__isub__": None, "widen": ["deed", "entries"], "undo": [], "__len__": None,
            "__contains__": None, "do": ["command"], "do_all": ["commands"],
        },
        "Trial": {"__init__": ["desk"], "__enter__": None, "__exit__": None},
    },
}

STATIC = {"layouts": {"Layout": {"of_two": ["thing", "state", "one", "other"]}}}

PROPERTIES = {
    "things": {"Thing": ["deeds", "states"]},
    "layouts": {"Layout": ["thing", "state", "first", "second", "hands"]},
    "programs": {"Program": ["things", "hands"]},
    "desk": {"Desk": ["thing"]},
}

GENERATORS = [("layouts", "Layout", "orders"), ("power", None, "telling_layouts")]


def module(name):
    return importlib.import_module("settlesfirst." + name)


def parameters(function):
    return list(inspect.signature(function).parameters)


class Interface(unittest.TestCase):
    def test_functions(self):
        for name, functions in FUNCTIONS.items():
            for told, arguments in functions.items():
                function = vars(module(name))[told]
                self.assertEqual(function.__module__, "settlesfirst." + name, told)
                self.assertEqual(parameters(function), arguments, told)

    def test_methods_stand_in_the_class_itself(self):
        for name, classes in CLASSES.items():
            for told, methods in classes.items():
                found = vars(module(name))[told]
                self.assertEqual(found.__module__, "settlesfirst." + name, told)
                for method, arguments in methods.items():
                    self.assertIn(method, vars(found), told)
                    if arguments is not None:
                        self.assertEqual(parameters(vars(found)[method])[1:], arguments, method)

    def test_static_methods_stand_in_the_class_itself(self):
        for name, classes in STATIC.items():
            for told, methods in classes.items():
                for method, arguments in methods.items():
                    found = vars(vars(module(name))[told])[method]
                    self.assertIsInstance(found, staticmethod, method)
                    self.assertEqual(parameters(found.__func__), arguments, method)

    def test_generators(self):
        for name, told, function in GENERATORS:
            place = vars(module(name)) if told is None else vars(vars(module(name))[told])
            self.assertTrue(inspect.isgeneratorfunction(place[function]), function)

    def test_properties_stand_in_the_class_itself(self):
        for name, classes in PROPERTIES.items():
            for told, properties in classes.items():
                for each in properties:
                    self.assertIsInstance(vars(vars(module(name))[told])[each], property, each)


if __name__ == "__main__":
    unittest.main()
