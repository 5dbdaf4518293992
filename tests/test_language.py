"""The files of the package keep to the language, as far as a short look can tell."""

import os
import re
import unittest

from tests import language

FOLDER = os.path.join(os.path.dirname(os.path.dirname(os.path.abspath(__file__))), "settlesfirst")


def files():
    return sorted(name for name in os.listdir(FOLDER) if name != "__pycache__")


def source(name):
    with open(os.path.join(FOLDER, name), encoding="utf-8") as file:
        return file.read()


class Files(unittest.TestCase):
    def test_the_folder_contains_only_plain_files(self):
        self.assertIn("__init__.py", files())
        self.assertLessEqual(len(files()), 100)
        for name in files():
            self.assertRegex(name, r"\A([a-z][a-z0-9_]*|__init__|__main__)\.py\Z")

    def test_each_file_keeps_to_the_language(self):
        for name in files():
            self.assertEqual(language.complaints(name, source(name)), [])

    def test_the_methods_that_are_called_are_known(self):
        own = [method for name in files() for method in language.own_methods(source(name))]
        for name in files():
            for line, method in language.called_methods(source(name)):
                self.assertIn(method, language.ALLOWED_METHODS.union(own), f"{name}:{line}: L25")

    def test_no_property_is_assigned(self):
        told = {each for name in files() for each in language.properties(source(name))}
        self.assertIn("thing", told)
        for name in files():
            for line, attribute in language.assigned_attributes(source(name)):
                self.assertNotIn(attribute, told, f"{name}:{line}: L5")

    def test_a_name_is_not_a_method_and_an_attribute(self):
        own = {method for name in files() for method in language.own_methods(source(name))}
        for name in files():
            for line, attribute in language.assigned_attributes(source(name)):
                self.assertNotIn(attribute, own, f"{name}:{line}: L18")

    def test_words_that_do_not_stand_beside_getitem(self):
        for name in files():
            self.assertIsNone(re.search(r"\(type\)|Meta|metaclass=", source(name)), f"{name}: L17")

    def test_names_are_imported_from_the_file_that_defines_them(self):
        for name in files():
            for module, told in language.imports_of(source(name)):
                self.assertIn(told, language.defined_names(source(module.split(".")[1] + ".py")), name)

    def test_no_files_import_from_each_other(self):
        needs = {name[:-3]: {module.split(".")[1] for module, _ in language.imports_of(source(name))}
                 for name in files()}
        done = set()
        while len(done) < len(needs):
            ready = {name for name, needed in needs.items() if name not in done and needed <= done}
            self.assertTrue(ready, "L16 a circle")
            done |= ready

    def test_generators_are_iterated_at_once_and_have_names_of_their_own(self):
        told = [each for name in files() for each in language.generators(source(name))]
        defined = [each for name in files() for each in language.function_names(source(name))]
        self.assertIn("telling_layouts", told)
        for each in told:
            self.assertEqual(defined.count(each), 1, each)
        for name in files():
            self.assertEqual(language.loose_generators(source(name), told), [], name)

    def test_what_is_imported_is_used(self):
        for name in files():
            text = source(name)
            for _, told in language.imports_of(text):
                self.assertGreater(len(re.findall(rf"\b{told}\b", text)), 1, f"{name}: {told}")


class Net(unittest.TestCase):
    """The net itself catches what it is there for."""

    def caught(self, text):
        return [told.split(": ")[1].split()[0] for told in language.complaints("x.py", text)]

    def test_slips_are_caught(self):
        slips = {
            "L6": "class C:\n    def __exit__(self, kind, value, trace):\n        self.shut()\n",
            "L2": "from random import choice\n",
            "L3": "print\n",
            "L4": "@cache\ndef f(n):\n    return n\n",
            "L5": "class C:\n    def __hash__(self):\n        return 0\n",
            "L7": "def f(n):\n    return n * 0.5\n",
            "L8": "def f(n):\n    return hash(n)\n",
            "L10": "def f(n):\n" + "    n += 1\n" * 40 + "    return n\n",
            "L11": "def f(n):\n    return [x for x in set(n)]\n",
            "L12": "def f(n):\n    __x = n\n    return n\n",
            "L14": "# \u00e9\n",
            "L15": "def f(id):\n    return id\n",
            "L16": "import math\n",
            "L17": "def f(n):\n    return n.elements\n",
            "L18": "class C:\n    def __init__(self):\n        self.n = 1\n\n    def n(self):\n        return 2\n",
            "L19": "def f(n):\n    raise n\n",
            "L20": "def f(n):\n    return n is f\n",
            "L25": "def f(n):\n    n.sort()\n",
            "L27": "def f(n):\n    return \"50%\"\n",
            "L28": "class C:\n    def __len__(self):\n        pass\n",
        }
        for rule, text in slips.items():
            self.assertIn(rule, self.caught(text), text)

    def test_plain_code_is_let_through(self):
        text = '"""A file."""\n\nMANY = 3\n\n\ndef many(rows):\n    """How many."""\n    return len(rows) + MANY\n'
        self.assertEqual(self.caught(text), [])


if __name__ == "__main__":
    unittest.main()
