"""Each error: its class, its one base, its attributes and its parameters."""

import inspect
import unittest

from settlesfirst import errors

BASES = {"SettleError": ValueError, "MissingError": LookupError, "StateError": RuntimeError,
         "LimitError": ArithmeticError}

LISTED = {
    "SettleError": {
        "InvalidDeeds": ["position"], "InvalidRows": ["position"], "InvalidState": ["value"],
        "InvalidDeed": ["value"], "InvalidWord": ["position"], "InvalidStates": ["value"],
        "InvalidNames": ["value"], "InvalidEntry": ["value"], "InvalidAnswers": ["value"],
        "InvalidNumber": ["value"], "InvalidTeam": ["value"], "InvalidHand": ["value"],
        "InvalidOrder": ["position"], "InvalidLayout": ["value"], "InvalidThings": ["position"],
        "InvalidScripts": ["position"], "InvalidWeaving": ["position"], "InvalidPlace": ["value"],
        "InvalidText": ["line"], "InvalidClaim": ["value"], "InvalidCommand": ["value"],
    },
    "MissingError": {"NoSuch": ["value"]},
    "StateError": {
        "SharedDeed": ["value"], "OtherThing": ["value"], "LastOne": ["value"], "NotInIt": ["hand"],
        "NotTelling": [], "NotRecording": [], "NotRight": [], "NotCritical": ["value"],
        "NothingToUndo": [], "CommandFailed": ["position"],
    },
    "LimitError": {"TooMany": ["what", "limit"]},
}

ANY = [None, True, 0, -1, 10 ** 29, "", "a b", b"x", [], [1, [2]], (), {}, {"a": []}, {1}, object(), ValueError("x")]


def listed():
    for base, classes in LISTED.items():
        for name, attributes in classes.items():
            yield base, name, attributes


class Errors(unittest.TestCase):
    def test_the_four_bases(self):
        for name, base in BASES.items():
            self.assertEqual(getattr(errors, name).__bases__, (base,), name)

    def test_each_error_has_one_base(self):
        for base, name, _ in listed():
            self.assertEqual(getattr(errors, name).__bases__, (getattr(errors, base),), name)

    def test_all_are_defined_in_the_file(self):
        names = list(BASES) + [name for _, name, _ in listed()]
        for name in names:
            self.assertEqual(getattr(errors, name).__module__, "settlesfirst.errors", name)
        found = [name for name, value in vars(errors).items() if isinstance(value, type)]
        self.assertEqual(sorted(found), sorted(names))

    def test_parameters(self):
        for _, name, attributes in listed():
            told = list(inspect.signature(getattr(errors, name).__init__).parameters)
            self.assertEqual(told, ["self"] + attributes, name)

    def test_attributes_by_position_and_by_name(self):
        for _, name, attributes in listed():
            for value in ANY:
                values = [value, "second"][:len(attributes)]
                by_name = dict(zip(attributes, values))
                for error in (getattr(errors, name)(*values), getattr(errors, name)(**by_name)):
                    self.assertEqual(vars(error), by_name, name)

    def test_they_are_raised_and_caught_by_their_bases(self):
        for base, name, attributes in listed():
            for kind in (getattr(errors, name), getattr(errors, base), BASES[base]):
                with self.assertRaises(kind):
                    raise getattr(errors, name)(*attributes)

    def test_attributes_are_the_objects_own(self):
        first, second = errors.InvalidDeeds(1), errors.InvalidDeeds(None)
        self.assertEqual((first.position, second.position), (1, None))
        limit = errors.TooMany("deeds", 4)
        self.assertEqual((limit.what, limit.limit), ("deeds", 4))


if __name__ == "__main__":
    unittest.main()
