"""Names, arguments and places of what the interface lists."""

import importlib
import inspect
import unittest

FUNCTIONS = {
    "things": {"is_fold": ["one", "other", "states", "deeds", "answers"]},
    "makers": {"box": ["names"], "keep": ["names"], "swap": ["names"], "counter": ["size"], "ladder": ["size"],
               "is_box": ["thing"]},
}

CLASSES = {
    "things": {
        "Thing": {
            "__init__": ["deeds", "rows"], "rows": [], "__call__": ["state", "deed"], "run": ["state", "word"],
            "reached": ["state"], "part": ["state", "deeds"], "numbered": ["order"], "renamed": ["names"],
            "answered": ["answers"], "__or__": None, "__len__": None, "__contains__": None, "__eq__": None,
            "__repr__": None,
        },
    },
}

PROPERTIES = {"things": {"Thing": ["deeds", "states"]}}


def module(name):
    return importlib.import_module("settlesfirst." + name)


def parameters(function):
    return list(inspect.signature(function).parameters)


class Interface(unittest.TestCase):
    def test_functions(self):
        for name, functions in FUNCTIONS.items():
            for told, arguments in functions.items():
                function = vars(module(name))[told]
                self.assertEqual(function.__module__, "settlesfirst." + name, told)
                self.assertEqual(parameters(function), arguments, told)

    def test_methods_stand_in_the_class_itself(self):
        for name, classes in CLASSES.items():
            for told, methods in classes.items():
                found = vars(module(name))[told]
                self.assertEqual(found.__module__, "settlesfirst." + name, told)
                for method, arguments in methods.items():
                    self.assertIn(method, vars(found), told)
                    if arguments is not None:
                        self.assertEqual(parameters(vars(found)[method])[1:], arguments, method)

    def test_properties_stand_in_the_class_itself(self):
        for name, classes in PROPERTIES.items():
            for told, properties in classes.items():
                for each in properties:
                    self.assertIsInstance(vars(vars(module(name))[told])[each], property, each)


if __name__ == "__main__":
    unittest.main()
