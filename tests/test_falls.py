"""Hands that fall: layouts that record, weavings with falls, programs that are right with them."""

import unittest

from settlesfirst.building import is_made_of, settle, trimmed
from settlesfirst.errors import InvalidNumber, InvalidWeaving, NotRecording, TooMany
from settlesfirst.falls import (
    behind_falls, endless_with_falls, fall_blot, is_bad_with_falls, is_fall_blot, is_quarrel_with_falls,
    is_right_with_falls, power_with_falls, program_with_falls, quarrel_with_falls, recording, records,
    settle_with_falls, shortest_with_falls,
)
from settlesfirst.layouts import Layout
from settlesfirst.makers import box, counter, is_box, keep, ladder, swap
from settlesfirst.power import endless, power
from settlesfirst.programs import Program
from settlesfirst.telling import tells
from settlesfirst.things import Thing
from settlesfirst.weavings import is_bad, is_quarrel, is_right
from tests import plain, weaver
from tests.values import NO_INTEGERS, NO_LISTS, Equal, raised, some_things, switch

SET = ("do", 0, "set", {0: 1, 1: 2})
RACE = Program([(switch(), 0)], [[SET, ("end", 0), ("end", 1)], [SET, ("end", 1), ("end", 0)]])
PAIR = Layout(switch(), 0, ["set"], ["set"])
KEPT = keep(["x", "y"])
# "mark" leaves a state that "wipe" takes back to the own one; "wipe" alone leads elsewhere.
RETURNING = Thing(["mark", "wipe"], [[(0, 1), (0, 2)], [(0, 1), (0, 0)], [(0, 2), (0, 2)]])
HIDDEN = Layout(RETURNING, 0, ["mark"], ["wipe"])
WIPERS = HIDDEN.with_hand(1, "wipe")
# Here "wipe" must be done twice behind "mark": no end is common, but the own state is one of the hand that is alone.
TWICE = Thing(["mark", "wipe"], [[(0, 1), (0, 2)], [(0, 1), (0, 3)], [(0, 2), (0, 2)], [(0, 3), (0, 0)]])
TWO_WIPERS = Layout(TWICE, 0, ["mark"], ["wipe", "wipe"])
BY_WEAVING = [behind_falls, is_bad_with_falls]


def some():
    return some_things(60, 31) + [switch(), KEPT, RETURNING, TWICE, ladder(2), ladder(3), ladder(4), box(["x", "y"]),
                                  swap(["x", "y"]), counter(3), keep(["x", "y", "z"])]


def some_layouts():
    found = []
    for thing in some():
        for number in (2, 3, 4):
            found += plain.layouts(thing, number)[::5]
    return found + [~layout for layout in found[::3]] + [HIDDEN, PAIR, WIPERS, ~WIPERS, TWO_WIPERS, ~TWO_WIPERS]


class Records(unittest.TestCase):
    def test_ordinary(self):
        self.assertEqual((records(PAIR), records(layout=Layout(KEPT, 0, ["x"], ["y"]))), (False, True))
        for many in (1, 2, 3, 4):
            self.assertIs(records(Layout(KEPT, 0, ["x"] * many, ["y"] * (5 - many))), True)
        self.assertIs(records(Layout(KEPT, 0, ["x"], ["x", "y"])), False)
        self.assertIs(records(Layout(KEPT, 1, ["x"], ["y"])), False)

    def test_the_own_state_as_an_end(self):
        self.assertEqual((HIDDEN.ends(0), HIDDEN.ends(1), records(HIDDEN), records(~HIDDEN)), ([0, 1], [2], True, True))
        two = HIDDEN.with_hand(0, "mark")
        self.assertEqual((two.ends(0), two.ends(1), records(two), records(~two)), ([0, 1], [2], True, True))
        self.assertEqual((0 in WIPERS.ends(0), records(WIPERS), records(~WIPERS)), (True, False, False))
        self.assertEqual((TWO_WIPERS.ends(0), TWO_WIPERS.ends(1), records(TWO_WIPERS)), ([0, 1, 3], [2], False))
        self.assertEqual((fall_blot(TWO_WIPERS), fall_blot(~TWO_WIPERS)), (([0, 1, 2], None), ([2, 0, 1], None)))
        self.assertEqual((records(TWO_WIPERS.without(1)), tells(TWO_WIPERS)), (True, True))

    def test_all(self):
        found = {True: 0, False: 0}
        for layout in some_layouts():
            expected = plain.records(layout)
            self.assertIs(records(layout), expected, repr(layout))
            found[expected] += 1
            if expected:
                self.assertTrue(tells(layout))
        self.assertGreater(min(found.values()), 20)

    def test_fall_blots(self):
        forms = set()
        for layout in some_layouts():
            found = fall_blot(layout)
            blots = plain.fall_blots(layout)
            if not blots:
                self.assertIsNone(found)
                continue
            one, other = found
            self.assertEqual([type(found), type(one), type(other)], [tuple, list, list if other is not None else type(None)])
            self.assertIn((tuple(one), other if other is None else tuple(other)), blots)
            self.assertIs(is_fall_blot(layout, found), True)
            forms.add(other is None)
        self.assertEqual(forms, {True, False})

    def test_both_forms(self):
        self.assertEqual(fall_blot(layout=HIDDEN), None)
        self.assertIs(is_fall_blot(WIPERS, ([0, 1], None)), True)
        self.assertIs(is_fall_blot(value=((0, 2), None), layout=WIPERS), True)
        self.assertIs(is_fall_blot(~WIPERS, ([2, 1], None)), True)
        self.assertIs(is_fall_blot(WIPERS, ([0], None)), False)
        self.assertIs(is_fall_blot(HIDDEN, ([0, 1], None)), False)
        self.assertIs(is_fall_blot(WIPERS, ([0, 1], [1])), False)
        self.assertIs(is_fall_blot(PAIR, ([0], [1])), True)
        self.assertIs(is_fall_blot(PAIR, ((0, 1), [1, 0])), True)

    def test_all_values_are_told_apart(self):
        for layout in some_layouts()[::11]:
            expected = set(plain.fall_blots(layout))
            orders = plain.orders(layout.hands)
            for one in orders[::2]:
                for other in orders[::3] + [None]:
                    value = (one, other)
                    told = (tuple(one), other if other is None else tuple(other))
                    self.assertIs(is_fall_blot(layout, value), told in expected)

    def test_is_no_fall_blot(self):
        values = [
            [[0], [1]], ([0],), ([0], [1], 0), ([1], [0]), ([0], [0]), ([1], [1]), ([0], [1, 1]), ([0], []), ([], [1]),
            ([False], [1]), ([0], [True]), ([0], [3]), ([-1], [1]), (None, [1]), (None, None), ([0], 1), (0, 1), (0, None),
            ([0, True], None), ([False, 1], None), [[0, 1], None], ([0, 1], None, None), ([0, 1, 7], None),
            ([0, 1], False), ([0, 1], 0), ([0, 1], ()), ({0: 1}, None), ("01", None), (Equal(), Equal()), (Equal(), None),
            ([Equal(), 1], None), Equal(), None, 0, True, "", "ab", (), [], {}, {1, 2}, WIPERS, switch(), ([0], Equal()),
        ]
        for value in values:
            for layout in (Layout(KEPT, 0, ["x"], ["y"]), HIDDEN):
                self.assertIs(is_fall_blot(layout, value), False, repr(value))
        self.assertEqual((is_fall_blot(PAIR, ([0], [1])), is_fall_blot(WIPERS, ([0, 1], None))), (True, True))
        for value in values:
            for layout in (PAIR, WIPERS):
                if repr(value) not in ("([0], [1])", "([0, 1], None)"):
                    self.assertIs(is_fall_blot(layout, value), False, repr(value))

    def test_what_was_told_can_be_changed(self):
        fall_blot(PAIR)[0].append(7)
        self.assertTrue(is_fall_blot(PAIR, fall_blot(PAIR)))


class Recording(unittest.TestCase):
    def test_ordinary(self):
        self.assertEqual(recording(KEPT, 3), [Layout(KEPT, 0, ["x"], ["y", "y"]), Layout(KEPT, 0, ["x", "x"], ["y"])])
        self.assertEqual((recording(switch(), 2), recording(number=2, thing=RETURNING)), ([], [HIDDEN]))
        self.assertEqual(type(recording(KEPT, 2)), list)

    def test_all(self):
        for thing in some():
            for number in (2, 3, 4):
                expected = [layout for layout in plain.layouts(thing, number) if plain.records(layout)]
                self.assertEqual(recording(thing, number), expected)

    def test_power(self):
        things = [switch(), ladder(1), ladder(2), ladder(3), KEPT, box(["x"]), RETURNING, swap(["x", "y"])]
        self.assertEqual([power_with_falls(thing) for thing in things], [1, 1, 2, 3, 4, 1, 4, 1])
        self.assertEqual(power_with_falls(thing=KEPT), 4)
        for thing in some():
            expected = max([number for number in (2, 3, 4) if recording(thing, number)], default=1)
            self.assertEqual(power_with_falls(thing), expected)
            self.assertLessEqual(expected, power(thing))

    def test_endless(self):
        self.assertEqual(endless_with_falls(thing=KEPT), endless(KEPT))
        self.assertEqual((endless_with_falls(switch()), endless_with_falls(RETURNING)), ([], [(0, "wipe", "mark")]))
        met = 0
        for thing in some() + some_things(200, 2):
            expected = [
                (state, one, other) for state in range(thing.states) for one in thing.deeds for other in thing.deeds
                if all(plain.crowd_records(thing, state, one, other, many) for many in range(1, 2 * thing.states + 2))]
            self.assertEqual(endless_with_falls(thing), expected)
            met += len(expected)
        self.assertGreater(met, 20)

    def test_no_number(self):
        for number in NO_INTEGERS + [-1, 0, 1, 5, 10 ** 29]:
            wrong = raised(recording, KEPT, number)
            self.assertEqual(wrong[0], InvalidNumber, repr(number))
            self.assertIs(wrong[1]["value"], number)

    def test_of_things_that_the_package_made(self):
        thing = keep(["a", "b", "c", "d"]) | swap(["e", "f"]) | ladder(4)
        self.assertEqual((power_with_falls(thing), recording(thing, 2)[0]), (4, Layout(thing, 0, ["a"], ["b"])))
        self.assertEqual(endless_with_falls(thing)[0], (0, "a", "b"))


class Behind(unittest.TestCase):
    def test_ordinary(self):
        self.assertEqual(behind_falls(RACE, []), ((0, 0), (0,), [], []))
        self.assertEqual(behind_falls(RACE, [1, 0]), ((2, 1), (1,), [0, 1], [1]))
        self.assertEqual(behind_falls(weaving=(1, ("fall", 1)), program=RACE), ((0, 0), (1,), [1], [1]))
        self.assertEqual(behind_falls(RACE, [1, ("fall", 1), 1]), ((0, 2), (1,), [1], [0, 1]))
        told = behind_falls(RACE, [1])
        self.assertEqual([type(told)] + [type(part) for part in told], [tuple, tuple, tuple, list, list])

    def test_hands_that_are_done_lost_neither_or_have_made_no_step(self):
        script = [("look", 0, {0: 1}), ("do", 0, "set", {0: 2}), ("end", 1)]
        program = Program([(switch(), 0)], [script, script])
        self.assertEqual(behind_falls(program, [0, ("fall", 0)]), ((0, 0), (0,), [0], []))
        self.assertEqual(behind_falls(program, [0, 0, ("fall", 0)]), ((0, 0), (1,), [0], [1]))
        self.assertEqual(behind_falls(program, [0, 0, ("fall", 0), 0]), ((None, 0), (1,), [0], [1]))
        self.assertEqual(behind_falls(program, [0, 0, 1, ("fall", 1)]), ((2, 0), (1,), [0, 1], [1]))
        self.assertEqual(behind_falls(program, [("fall", 1), ("fall", 1)]), ((0, 0), (0,), [], []))
        self.assertEqual(behind_falls(program, [("fall", 1), 1]), ((0, 1), (0,), [1], []))

    def test_all(self):
        for program in weaver.some_programs(40, 3) + weaver.some_programs(6, 4, hands=3) + [RACE]:
            for weaving, walk in weaver.weavings_with_falls(program, 5 if program.hands == 2 else 4):
                expected = (tuple(walk.nodes), tuple(walk.states), sorted(walk.stepped), sorted(walk.named))
                self.assertEqual(behind_falls(program, weaving), expected)
                self.assertIs(is_bad_with_falls(program, weaving), walk.bad)
                self.assertIs(is_quarrel_with_falls(program, weaving), walk.bad)

    def test_no_weaving(self):
        for action in BY_WEAVING:
            for weaving in NO_LISTS:
                self.assertEqual(raised(action, RACE, weaving), (InvalidWeaving, {"position": None}), repr(weaving))
            steps = NO_INTEGERS + [-1, 2, 10 ** 29, "fall", ("fall",), ("fall", 2), ("fall", -1), ["fall", 0], (0, "fall"),
                                   ("fall", 0, 0), ("Fall", 0), (b"fall", 0), ("fall", "0"), ("fall", None), (Equal(), 0),
                                   ("fall", True), ("fall", False), ("fall", Equal()), ("fall", [0]), {"fall": 0}]
            for step in steps:
                self.assertEqual(raised(action, RACE, [step]), (InvalidWeaving, {"position": 0}), repr(step))
                wrong = raised(action, RACE, (0, ("fall", 0), step, 7))
                self.assertEqual(wrong, (InvalidWeaving, {"position": 2}), repr(step))

    def test_a_hand_that_cannot_step(self):
        for action in BY_WEAVING:
            self.assertEqual(raised(action, RACE, [0, 0]), (InvalidWeaving, {"position": 1}))
            self.assertEqual(raised(action, RACE, [0, ("fall", 1), 0]), (InvalidWeaving, {"position": 2}))
            self.assertIsNone(raised(action, RACE, [0, ("fall", 0), 0]))

    def test_what_was_passed_and_told_can_be_changed(self):
        weaving = [0, ("fall", 0), 0]
        told = behind_falls(RACE, weaving)
        told[2].append(7)
        told[3].append(7)
        self.assertEqual((weaving, behind_falls(RACE, weaving)[2:]), ([0, ("fall", 0), 0], ([0], [0, 1])))


class Bad(unittest.TestCase):
    def test_ordinary(self):
        self.assertEqual([is_bad_with_falls(RACE, weaving) for weaving in ([], [0], [0, ("fall", 0)], [0, ("fall", 0), 0])],
                         [False, False, False, True])
        self.assertIs(is_bad_with_falls(weaving=[1, 0], program=RACE), False)

    def test_two_hands_named_behind_and_ahead_of_a_fall(self):
        script = [("look", 0, {0: 1, 1: 2}), ("end", 0), ("end", 1)]
        program = Program([(switch(), 0)], [script, [("do", 0, "set", {0: 1, 1: 1}), ("look", 0, {1: 2}), ("end", 1)]])
        for weaving, bad in (([0, 1], False), ([0, 1, 1], True), ([0, 1, ("fall", 0)], False), ([0, ("fall", 0), 1, 0], True),
                             ([0, ("fall", 0), 1, 1], True), ([1, 0, 1], False), ([1, 0, ("fall", 0), 0], False),
                             ([0, 1, 1, ("fall", 0), ("fall", 1)], True)):
            self.assertIs(is_bad_with_falls(program, weaving), bad, repr(weaving))

    def test_a_hand_named_that_has_never_made_a_step(self):
        script = [("look", 0, {0: 1}), ("end", 0)]
        program = Program([(switch(), 0)], [script, script])
        self.assertEqual([is_bad_with_falls(program, weaving) for weaving in (
            [1], [0, 1], [0, ("fall", 0), 1], [("fall", 0), 1], [1, 0], [1, ("fall", 1), 0])],
            [True, False, False, True, True, True])

    def test_what_is_lost_stays_bad(self):
        script = [("do", 0, "set", {0: 1}), ("end", 0)]
        program = Program([(switch(), 0)], [script, script])
        self.assertIs(is_bad_with_falls(program, [0, 1]), True)
        self.assertIs(is_bad_with_falls(program, [0, 1, ("fall", 1)]), True)

    def test_without_falls_it_is_bad_as_ever(self):
        for program in weaver.some_programs(40, 8):
            for weaving, walk in weaver.all_weavings(program):
                self.assertIs(is_bad_with_falls(program, weaving), is_bad(program, weaving))
                self.assertIs(is_quarrel_with_falls(program, weaving), is_quarrel(program, weaving))


class Right(unittest.TestCase):
    def test_ordinary(self):
        self.assertEqual((is_right_with_falls(RACE), shortest_with_falls(RACE)), (False, 3))
        self.assertEqual((is_right_with_falls(program=RACE), shortest_with_falls(program=RACE)), (False, 3))
        self.assertIn(quarrel_with_falls(program=RACE), ([0, ("fall", 0), 0], [1, ("fall", 1), 1]))
        made = settle_with_falls(KEPT, 2)
        told = (is_right_with_falls(made), quarrel_with_falls(made), shortest_with_falls(made))
        self.assertEqual(told, (True, None, None))

    def test_the_same_with_one_node_otherwise(self):
        made = program_with_falls(Layout(KEPT, 0, ["x"], ["y"]))
        for hand in (0, 1):
            for number, node in enumerate(made.script(hand)):
                scripts = [made.script(0), made.script(1)]
                if node[0] == "end":
                    scripts[hand][number] = ("end", 1 - node[1])
                else:
                    keys = sorted(node[-1])
                    scripts[hand][number] = node[:-1] + ({key: node[-1][key] for key in keys[1:]} or {9: number + 1},)
                self.assertIs(is_right_with_falls(Program(made.things, scripts)), False)

    def test_a_program_that_does_its_deed_first(self):
        self.assertIs(is_right_with_falls(settle(KEPT, 2)), True)
        self.assertIs(is_right_with_falls(settle(switch(), 2)), False)
        self.assertIs(is_right_with_falls(settle(ladder(2), 2)), False)

    def test_shortest(self):
        for program in weaver.some_programs(60, 12) + weaver.some_programs(8, 13, hands=3) + [RACE]:
            most = 5 if program.hands == 2 else 4
            bad = [weaving for weaving, walk in weaver.weavings_with_falls(program, most) if walk.bad]
            found = quarrel_with_falls(program)
            self.assertEqual(is_right_with_falls(program), found is None)
            if bad:
                self.assertEqual((shortest_with_falls(program), len(found)), (len(bad[0]), len(bad[0])))
                self.assertIn(found, bad)
                self.assertEqual(type(found), list)
                self.assertIs(is_quarrel_with_falls(program, found), True)
            else:
                self.assertTrue(found is None or len(found) > most)

    def test_right_with_falls_is_right(self):
        for program in weaver.some_right_programs(25, 9) + weaver.some_programs(40, 10):
            self.assertTrue(is_right(program) or not is_right_with_falls(program))

    def test_any_value_in_is_quarrel(self):
        self.assertIs(is_quarrel_with_falls(RACE, (0, ("fall", 0), 0)), True)
        values = NO_LISTS + [[], [0], [0, ("fall", 0)], [0, ("fall", 0), 0, 0], [0, ["fall", 0], 0], [False, ("fall", 0), 0],
                             [0, ("fall", False), 0], [0, ("fall", 0), False], [0, ("fall", 0), True], [0, "fall", 0],
                             [0, ("fall", 0, 0), 0], [0, ("fall",), 0], [0, (Equal(), 0), 0], [0, Equal(), 0], [0, 0],
                             [0, ("fall", 2), 0], [None], [[0, ("fall", 0), 0]], RACE]
        for value in values:
            self.assertIs(is_quarrel_with_falls(RACE, value), False, repr(value))

    def test_what_was_told_can_be_changed(self):
        quarrel_with_falls(RACE).append(7)
        self.assertTrue(is_quarrel_with_falls(RACE, quarrel_with_falls(RACE)))


class Built(unittest.TestCase):
    def check(self, program, hands, thing):
        """A program for so many hands that is right with falls, made of this thing, and could be passed by a caller."""
        self.assertEqual((type(program), program.hands), (Program, hands))
        self.assertTrue(is_right_with_falls(program))
        self.assertTrue(is_right(program))
        self.assertTrue(is_made_of(program, [thing]))
        for each, _ in program.things:
            if each != thing:
                self.assertEqual((is_box(each), Thing(each.deeds, each.rows())), (True, each))
        self.assertEqual(Program(program.things, [program.script(hand) for hand in range(hands)]), program)

    def test_ordinary(self):
        self.check(program_with_falls(Layout(KEPT, 0, ["x"], ["y"])), 2, KEPT)
        self.check(program_with_falls(layout=Layout(KEPT, 0, ["x", "x"], ["y"])), 3, KEPT)
        self.check(settle_with_falls(number=3, thing=KEPT), 3, KEPT)

    def test_the_own_state_comes_back(self):
        for layout in (HIDDEN, ~HIDDEN):
            self.check(program_with_falls(layout), 2, RETURNING)
        for layout in (HIDDEN.with_hand(0, "mark"), ~HIDDEN.with_hand(0, "mark")):
            self.check(program_with_falls(layout), 3, RETURNING)

    def test_all(self):
        forms = set()
        for thing in some() + some_things(60, 6, most_states=6):
            for number in (2, 3):
                for layout in recording(thing, number)[:3]:
                    for each in (layout, ~layout):
                        self.check(program_with_falls(each), number, thing)
                        own = each.state in each.ends(0), each.state in each.ends(1)
                        forms.add((len(each.first), own))
        self.assertTrue({(1, (False, False)), (2, (False, False)), (1, (True, False)), (1, (False, True)),
                         (2, (True, False))} <= forms, forms)

    def test_settle(self):
        for thing in some():
            for number in (2, 3):
                made = settle_with_falls(thing, number)
                if power_with_falls(thing) < number:
                    self.assertIsNone(made)
                else:
                    self.check(made, number, thing)

    def test_of_things_that_the_package_made(self):
        thing = keep(["a", "b", "c", "d"]) | swap(["e", "f"]) | ladder(4)
        self.check(settle_with_falls(thing, 3), 3, thing)

    def test_trimmed(self):
        made = trimmed(settle_with_falls(KEPT, 3))
        self.assertTrue(is_right(made))

    def test_too_many_is_ahead_of_not_recording(self):
        for first, second in ((["x"], ["y"] * 3), (["x"] * 2, ["y"] * 2), (["x"], ["x"] * 3), (["x"] * 2, ["y"] * 3)):
            wrong = raised(program_with_falls, Layout(KEPT, 0, first, second))
            self.assertEqual(wrong, (TooMany, {"what": "hands", "limit": 3}))

    def test_not_recording(self):
        for layout in (PAIR, PAIR.with_hand(0, "set"), Layout(KEPT, 1, ["x"], ["y"]), Layout(KEPT, 0, ["x"], ["x", "y"]),
                       HIDDEN.with_hand(1, "wipe")):
            self.assertEqual(raised(program_with_falls, layout), (NotRecording, {}))

    def test_no_number(self):
        for number in NO_INTEGERS + [-1, 0, 1, 4, 5, 10 ** 29]:
            wrong = raised(settle_with_falls, KEPT, number)
            self.assertEqual(wrong[0], InvalidNumber, repr(number))
            self.assertIs(wrong[1]["value"], number)


if __name__ == "__main__":
    unittest.main()
