"""Programs: what is taken, what is told, and every error of the class."""

import unittest

from settlesfirst.errors import InvalidHand, InvalidScripts, InvalidThings, TooMany
from settlesfirst.makers import box, counter, keep
from settlesfirst.programs import Program
from settlesfirst.things import Thing
from tests.values import NO_DICTS, NO_INTEGERS, NO_LISTS, NO_NAMES, Equal, raised, switch

KEPT = keep(["x", "y"])
THINGS = [(switch(), 0), (KEPT, 2), (box(["x"]), 1)]
END = ("end", 0)
PLAIN = [("look", 0, {0: 1}), END]
RACE = [
    [("do", 0, "set", {0: 1, 1: 2}), ("end", 0), ("end", 1)],
    [("do", 0, "set", {0: 1, 1: 2}), ("end", 1), ("end", 0)],
]


def race():
    return Program([(switch(), 0)], RACE)


def wrong_script(script, things=THINGS):
    """The error of a program in which this script stands between others that are right."""
    return raised(Program, things, [PLAIN, PLAIN, script, 7])


def long_script(many):
    """A script of so many nodes."""
    return [("look", 0, {0: node + 1}) for node in range(many - 1)] + [END]


class Making(unittest.TestCase):
    def test_ordinary(self):
        program = race()
        self.assertEqual((program.things, program.hands, len(program)), ([(switch(), 0)], 2, 6))
        self.assertEqual([program.script(0), program.script(1)], RACE)

    def test_all_forms(self):
        script = [("look", 1, {0: 1, 1: 3, 2: 3}), ("do", 2, "x", {0: 2}), ("do", 0, "set", {0: 3, 1: 3}), ("end", 2)]
        program = Program(THINGS, [script, PLAIN, PLAIN])
        self.assertEqual((program.things, program.hands, len(program)), (THINGS, 3, 8))
        self.assertEqual(program.script(0), script)
        self.assertEqual([type(program.things), type(program.things[0]), type(program.script(0))], [list, tuple, list])
        self.assertEqual([type(node) for node in program.script(0)], [tuple] * 4)

    def test_tuples_and_names(self):
        scripts = tuple(tuple(script) for script in RACE)
        self.assertEqual(Program(scripts=scripts, things=((switch(), 0),)), race())
        self.assertEqual(Program(((switch(), 0),), scripts).script(hand=1), RACE[1])
        self.assertEqual(type(Program(((switch(), 0),), scripts).script(0)), list)

    def test_two_and_four_hands_and_five(self):
        for hands in (2, 3, 4):
            scripts = [[("look", 0, {0: 1}), ("end", hands - 1)]] * hands
            program = Program(THINGS, scripts)
            self.assertEqual((program.hands, len(program)), (hands, 2 * hands))
        self.assertEqual(raised(Program, THINGS, [PLAIN] * 5), (TooMany, {"what": "hands", "limit": 4}))
        script = [("look", 0, {0: 1}), ("end", 4)]
        self.assertEqual(raised(Program, THINGS, [script] * 5), (TooMany, {"what": "hands", "limit": 4}))
        self.assertEqual(raised(Program, THINGS, [script] * 4), (InvalidScripts, {"position": 0}))

    def test_twelve_and_thirteen_things(self):
        script = [("do", 11, "set", {0: 1}), END]
        self.assertEqual(len(Program([(switch(), 1)] * 12, [script] * 2).things), 12)
        wrong = raised(Program, [(switch(), 1)] * 13, [[("do", 12, "set", {0: 1}), END]] * 2)
        self.assertEqual(wrong, (TooMany, {"what": "things", "limit": 12}))

    def test_two_hundred_nodes_and_one_more(self):
        program = Program(THINGS, [PLAIN, long_script(200)])
        self.assertEqual((len(program), program.script(1)), (202, long_script(200)))
        self.assertEqual(len(Program(THINGS, [long_script(200)] * 4)), 800)
        for scripts in ([long_script(201), PLAIN], [PLAIN, PLAIN, PLAIN, long_script(201)]):
            self.assertEqual(raised(Program, THINGS, scripts), (TooMany, {"what": "nodes", "limit": 200}))

    def test_one_node(self):
        """A first node is no end, and what is no end has a branch to a later node: one node is never enough."""
        for node in [END, ("look", 0, {0: 0}), ("look", 0, {0: 1}), ("do", 0, "set", {0: 0})]:
            self.assertEqual(wrong_script([node]), (InvalidScripts, {"position": 2}), node)
        self.assertEqual(len(Program(THINGS, [PLAIN, PLAIN])), 4)

    def test_nodes_to_which_no_weaving_comes(self):
        script = [("look", 0, {1: 2}), ("do", 0, "set", {0: 3}), END, END, END]
        self.assertEqual(Program(THINGS, [PLAIN, script]).script(1), script)

    def test_answers_that_never_come(self):
        script = [("do", 0, "set", {answer: 1 for answer in range(10)}), END]
        self.assertEqual(Program(THINGS, [PLAIN, script]).script(1), script)

    def test_branches_are_sorted(self):
        script = [("do", 0, "set", {9: 1, 0: 2, 4: 1}), ("look", 1, {2: 2, 0: 3, 1: 2}), END, END]
        program = Program(THINGS, [PLAIN, script])
        self.assertEqual([list(program.script(1)[0][3]), list(program.script(1)[1][2])], [[0, 4, 9], [0, 1, 2]])
        self.assertEqual(program.script(1), script)

    def test_things_made_of_others(self):
        thing = keep(["a", "b", "c", "d"]) | keep(["e", "f", "g", "h"])
        script = [("look", 0, {24: 1}), ("do", 0, "h", {0: 2}), END]
        program = Program([(thing, 24)], [script, script])
        self.assertEqual(program.things, [(thing, 24)])
        self.assertEqual(raised(Program, [(thing, 25)], [script, script]), (InvalidThings, {"position": 0}))
        wrong = [("look", 0, {25: 1}), END]
        self.assertEqual(raised(Program, [(thing, 24)], [script, wrong]), (InvalidScripts, {"position": 1}))


class WrongThings(unittest.TestCase):
    def test_no_list(self):
        for things in NO_LISTS + [[], ()]:
            self.assertEqual(raised(Program, things, RACE), (InvalidThings, {"position": None}), repr(things))

    def test_no_tuple_of_a_thing_and_a_state(self):
        entries = [(switch(),), (switch(), 0, 0), (0, switch()), [switch(), 0], (), None, 0, "", switch(), Equal(),
                   (None, 0), (Thing, 0), (Equal(), 0), ([["set"], [(0, 0)]], 0), {switch().states: 0}]
        for entry in entries:
            self.assertEqual(raised(Program, [entry], RACE), (InvalidThings, {"position": 0}), repr(entry))
            wrong = raised(Program, [(switch(), 0), (switch(), 1), entry, 7], RACE)
            self.assertEqual(wrong, (InvalidThings, {"position": 2}), repr(entry))

    def test_no_state(self):
        for state in NO_INTEGERS + [-1, 2, 10 ** 29]:
            wrong = raised(Program, [(switch(), 1), (switch(), state)], RACE)
            self.assertEqual(wrong, (InvalidThings, {"position": 1}), repr(state))


class WrongScripts(unittest.TestCase):
    def test_no_list(self):
        for scripts in NO_LISTS + [[], (), [PLAIN], (PLAIN,), [7]]:
            self.assertEqual(raised(Program, THINGS, scripts), (InvalidScripts, {"position": None}), repr(scripts))

    def test_no_script(self):
        for script in NO_LISTS + [[], ()]:
            self.assertEqual(wrong_script(script), (InvalidScripts, {"position": 2}), repr(script))
            self.assertEqual(raised(Program, THINGS, [script, PLAIN]), (InvalidScripts, {"position": 0}), repr(script))

    def test_no_node(self):
        nodes = [None, 0, True, "", "end", [], (), {}, Equal(), list(END), list(PLAIN[0]), ("end",), ("do",), ("look",),
                 ("END", 0), ("stop", 0), ("", 0), (0, 0), (None, 0), (Equal(), 0), (b"end", 0), ("end", 0, 0),
                 ("do", 0, "set", {0: 2}, 0), ("do", 0, "set"), ("do", 0, {0: 2}), ("do", 0, "set", 0, {0: 2}),
                 ("look", 0, {0: 2}, 0), ("look", 0), ("look", {0: 2}), ("look", 0, "set", {0: 2}),
                 ("look", 0, 0, {0: 2}),
                 ("stop", 0, {0: 2}), ("Look", 0, {0: 2}), ("stop", 0, "set", {0: 2}), ("Do", 0, "set", {0: 2}),
                 ("do", 0, "set", {0: 2}, {0: 2}), ("look", 0, {0: 2}, {0: 2}), (["end"], 0), ("end", {0: 2}),
                 ("end", 0, {0: 2}), (Equal(), 0, {0: 2}), (Equal(), 0, "set", {0: 2})]
        for node in nodes:
            script = [("look", 0, {0: 2}), node, END]
            self.assertEqual(wrong_script(script), (InvalidScripts, {"position": 2}), repr(node))

    def test_no_thing(self):
        for thing in NO_INTEGERS + [-1, 3, 10 ** 29]:
            for node in (("do", thing, "x", {0: 1}), ("look", thing, {0: 1})):
                self.assertEqual(wrong_script([node, END]), (InvalidScripts, {"position": 2}), repr(node))
        self.assertIsNone(raised(Program, THINGS, [PLAIN, [("do", 2, "x", {0: 1}), END]]))

    def test_no_deed(self):
        for deed in NO_NAMES + ["x", "y"]:
            script = [("do", 0, deed, {0: 1}), END]
            self.assertEqual(wrong_script(script), (InvalidScripts, {"position": 2}), repr(deed))

    def test_no_branches(self):
        for branches in NO_DICTS + [{}, [(0, 1)], [1]]:
            for node in (("do", 0, "set", branches), ("look", 0, branches)):
                self.assertEqual(wrong_script([node, END]), (InvalidScripts, {"position": 2}), repr(branches))

    def test_keys_of_answers(self):
        for answer in (0, 9):
            self.assertIsNone(raised(Program, THINGS, [PLAIN, [("do", 0, "set", {answer: 1}), END]]))
        for answer in (10, -1, 10 ** 29, True, False, None, "0", (0,), Equal()):
            for branches in ({answer: 1}, {5: 1, answer: 1}):
                script = [("do", 0, "set", branches), END]
                self.assertEqual(wrong_script(script), (InvalidScripts, {"position": 2}), repr(branches))

    def test_keys_of_states(self):
        for state in (0, 1, 2):
            self.assertIsNone(raised(Program, THINGS, [PLAIN, [("look", 1, {state: 1}), END]]))
        for state in (3, -1, 10 ** 29, True, False, None, "0", (0,), Equal()):
            for branches in ({state: 1}, {2: 1, state: 1}):
                script = [("look", 1, branches), END]
                self.assertEqual(wrong_script(script), (InvalidScripts, {"position": 2}), repr(branches))
        self.assertEqual(wrong_script([("look", 0, {2: 1}), END]), (InvalidScripts, {"position": 2}))

    def test_branches_to_no_later_node(self):
        for after in NO_INTEGERS + [0, 1, -1, 4, 5, 10 ** 29]:
            for node in (("do", 0, "set", {0: 2, 1: after}), ("look", 0, {0: after, 1: 3})):
                script = [("look", 0, {0: 1}), node, END, END]
                self.assertEqual(wrong_script(script), (InvalidScripts, {"position": 2}), repr(after))
        for after in (2, 3):
            script = [("look", 0, {0: 1}), ("look", 0, {0: after}), END, END]
            self.assertIsNone(raised(Program, THINGS, [PLAIN, script]))

    def test_the_last_node_is_an_end(self):
        self.assertEqual(wrong_script([("look", 0, {0: 1}), ("look", 0, {0: 2})]), (InvalidScripts, {"position": 2}))
        self.assertEqual(wrong_script([("look", 0, {0: 1}), ("look", 0, {0: 1})]), (InvalidScripts, {"position": 2}))

    def test_an_end_as_the_first_node(self):
        for script in ([END], [END, END], [END, ("look", 0, {0: 2}), END]):
            self.assertEqual(wrong_script(script), (InvalidScripts, {"position": 2}))

    def test_an_end_with_no_hand(self):
        for hand in NO_INTEGERS + [-1, 2, 10 ** 29]:
            wrong = raised(Program, THINGS, [PLAIN, [("look", 0, {0: 1}), ("end", hand)]])
            self.assertEqual(wrong, (InvalidScripts, {"position": 1}), repr(hand))


class SeveralErrors(unittest.TestCase):
    def test_things_then_scripts_then_too_many(self):
        self.assertEqual(raised(Program, [], []), (InvalidThings, {"position": None}))
        self.assertEqual(raised(Program, THINGS + [7], 7), (InvalidThings, {"position": 3}))
        self.assertEqual(raised(Program, [(switch(), 0)] * 13 + [7], [PLAIN]), (InvalidThings, {"position": 13}))
        self.assertEqual(raised(Program, [(switch(), 0)] * 13, [PLAIN]), (InvalidScripts, {"position": None}))
        self.assertEqual(raised(Program, [(switch(), 0)] * 13, [PLAIN] * 5 + [[]]), (InvalidScripts, {"position": 5}))
        self.assertEqual(raised(Program, THINGS, [long_script(201), [END]]), (InvalidScripts, {"position": 1}))

    def test_things_then_hands_then_nodes(self):
        many = [(switch(), 0)] * 13
        self.assertEqual(raised(Program, many, [long_script(201)] * 5), (TooMany, {"what": "things", "limit": 12}))
        self.assertEqual(raised(Program, THINGS, [long_script(201)] * 5), (TooMany, {"what": "hands", "limit": 4}))

    def test_no_hand(self):
        for hand in NO_INTEGERS + [-1, 2, 10 ** 29]:
            wrong = raised(race().script, hand)
            self.assertEqual(wrong[0], InvalidHand, repr(hand))
            self.assertIs(wrong[1]["value"], hand)


class Copies(unittest.TestCase):
    def test_what_was_passed_can_be_changed(self):
        things = [(switch(), 0)]
        scripts = [[("do", 0, "set", {1: 2, 0: 1}), ("end", 0), ("end", 1)], [("look", 0, {0: 1}), ("end", 1)]]
        program = Program(things, scripts)
        self.assertEqual(list(scripts[0][0][3]), [1, 0])
        things.append((switch(), 1))
        scripts[0][0][3][0] = 7
        scripts[1][0][2].clear()
        scripts[0].pop()
        scripts.append([])
        self.assertEqual((program.things, program.hands, len(program)), ([(switch(), 0)], 2, 5))
        self.assertEqual(program.script(0), [("do", 0, "set", {0: 1, 1: 2}), ("end", 0), ("end", 1)])
        self.assertEqual(program.script(1), [("look", 0, {0: 1}), ("end", 1)])

    def test_what_was_told_can_be_changed(self):
        program = race()
        program.things.clear()
        script = program.script(0)
        script[0][3].clear()
        script.clear()
        self.assertEqual(program, race())
        self.assertEqual([program.script(0), program.script(1), program.things], RACE + [[(switch(), 0)]])

    def test_scripts_that_are_shared(self):
        script = [("look", 0, {0: 1}), ("end", 0)]
        program = Program(THINGS, [script, script])
        program.script(0)[0][2][1] = 1
        self.assertEqual(program.script(1), script)

    def test_a_part_cannot_be_set(self):
        for name in ("things", "hands"):
            self.assertRaises(AttributeError, setattr, race(), name, 0)


class Equality(unittest.TestCase):
    def test_all_parts(self):
        self.assertEqual(race(), race())
        self.assertFalse(race() != race())
        others = [
            Program([(switch(), 1)], RACE), Program([(switch(), 0)] * 2, RACE), Program([(switch(), 0)], RACE[::-1]),
            Program([(switch(), 0)], RACE + RACE[:1]), Program([(switch().answered({0: 1, 1: 0}), 0)], RACE),
            Program([(switch(), 0)], [RACE[0], RACE[1] + [END]]),
            Program([(switch(), 0)], [RACE[0], RACE[1][:2] + [("end", 1)]]),
            Program([(switch(), 0)], [RACE[0], [("do", 0, "set", {0: 1})] + RACE[1][1:]]),
        ]
        for one in others:
            self.assertNotEqual(one, race())
            for other in others:
                self.assertEqual(one == other, one is other)

    def test_the_sequence_of_keys_has_no_effect(self):
        script = [("do", 0, "set", {1: 2, 0: 1}), ("end", 0), ("end", 1)]
        self.assertEqual(Program([(switch(), 0)], [script, RACE[1]]), race())

    def test_other_values(self):
        for value in [None, 0, 6, [], ([(switch(), 0)], RACE), switch(), counter(2)]:
            self.assertFalse(race() == value)
            self.assertTrue(race() != value)


if __name__ == "__main__":
    unittest.main()
