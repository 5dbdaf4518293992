"""Weavings: what is behind them, which are bad, right programs, quarrels, full weavings."""

import unittest

from settlesfirst.building import program_of
from settlesfirst.errors import InvalidPlace, InvalidWeaving, NoSuch
from settlesfirst.layouts import Layout
from settlesfirst.makers import box, counter, keep, swap
from settlesfirst.programs import Program
from settlesfirst.weavings import (
    all_names, behind, can_step, full_at, how_many_full, is_bad, is_quarrel, is_right, most_steps, named, quarrel,
    shortest_quarrel,
)
from tests import weaver
from tests.values import NO_INTEGERS, NO_LISTS, Equal, raised, switch

SET = ("do", 0, "set", {0: 1, 1: 2})
RACE = Program([(switch(), 0)], [[SET, ("end", 0), ("end", 1)], [SET, ("end", 1), ("end", 0)]])
# Hand 1 names hand 0 whatever it hears; hand 0 never hears 1.
HASTY = Program([(switch(), 0)], [[("do", 0, "set", {0: 1}), ("end", 0)], [SET, ("end", 0), ("end", 0)]])
KEPT = Layout(keep(["x", "y"]), 0, ["x"], ["y", "y"])
BY_WEAVING = [behind, can_step, named, is_bad]


def lookers(hands, state=0, keys=(0,)):
    """A program whose hands look once at a switch, and name hand 0."""
    script = [("look", 0, {key: 1 for key in keys}), ("end", 0)]
    return Program([(switch(), state)], [script] * hands)


def some():
    return weaver.some_programs(120, 3) + weaver.some_programs(25, 4, hands=3) + [RACE, HASTY, lookers(3)]


class Behind(unittest.TestCase):
    def test_ordinary(self):
        self.assertEqual(behind(RACE, []), ((0, 0), (0,)))
        self.assertEqual(behind(RACE, [1]), ((0, 1), (1,)))
        self.assertEqual(behind(RACE, [1, 0]), ((2, 1), (1,)))
        self.assertEqual(behind(program=RACE, weaving=(0, 1)), ((1, 2), (1,)))
        self.assertEqual((can_step(RACE, []), can_step(RACE, [1]), can_step(RACE, [0, 1])), ([0, 1], [0], []))
        self.assertEqual((named(RACE, []), named(RACE, [1]), named(RACE, [1, 0])), ({}, {1: 1}, {0: 1, 1: 1}))
        self.assertEqual((can_step(weaving=(0,), program=RACE), named(weaving=(0,), program=RACE)), ([1], {0: 0}))
        self.assertIs(is_bad(weaving=[1, 0], program=RACE), False)

    def test_kinds(self):
        nodes, states = behind(RACE, [0])
        self.assertEqual([type(behind(RACE, [])), type(nodes), type(states)], [tuple] * 3)
        self.assertEqual([type(can_step(RACE, ())), type(named(RACE, ()))], [list, dict])

    def test_a_hand_that_is_lost(self):
        self.assertEqual(behind(HASTY, [1, 0]), ((None, 1), (1,)))
        self.assertEqual((can_step(HASTY, [1, 0]), named(HASTY, [1, 0])), ([], {1: 0}))
        self.assertEqual(raised(behind, HASTY, [1, 0, 0]), (InvalidWeaving, {"position": 2}))

    def test_a_look_changes_nothing(self):
        self.assertEqual(behind(lookers(2), [1]), ((0, 1), (0,)))
        self.assertEqual(behind(lookers(2, state=1), [1]), ((0, None), (1,)))

    def test_several_things(self):
        things = [(switch(), 1), (counter(3), 2), (keep(["x", "y"]), 0)]
        scripts = [[("do", 2, "y", {0: 1}), ("do", 1, "add", {2: 2}), ("look", 2, {2: 3}), ("end", 1)],
                   [("do", 1, "add", {2: 1, 0: 1}), ("look", 0, {1: 2}), ("end", 1)]]
        program = Program(things, scripts)
        self.assertEqual(behind(program, [0, 1]), ((1, 1), (1, 0, 2)))
        self.assertEqual(behind(program, [0, 0, 0]), ((3, 0), (1, 0, 2)))
        self.assertEqual(behind(program, [0, 1, 0]), ((None, 1), (1, 1, 2)))

    def test_all(self):
        for program in some():
            for weaving, walk in weaver.all_weavings(program):
                self.assertEqual(behind(program, weaving), (tuple(walk.nodes), tuple(walk.states)))
                self.assertEqual(can_step(program, weaving), walk.all_that_can())
                self.assertEqual(named(program, weaving), walk.names())
                self.assertEqual(list(named(program, weaving)), sorted(walk.names()))
                self.assertIs(is_bad(program, weaving), walk.bad)

    def test_no_list(self):
        for weaving in NO_LISTS:
            for action in BY_WEAVING:
                self.assertEqual(raised(action, RACE, weaving), (InvalidWeaving, {"position": None}), repr(weaving))

    def test_no_hand(self):
        for hand in NO_INTEGERS + [-1, 2, 10 ** 29]:
            for action in BY_WEAVING:
                for weaving in ([hand], (hand, 0), [hand, hand]):
                    self.assertEqual(raised(action, RACE, weaving), (InvalidWeaving, {"position": 0}), repr(hand))
                self.assertEqual(raised(action, RACE, [1, hand, 7]), (InvalidWeaving, {"position": 1}), repr(hand))

    def test_a_hand_that_cannot_step(self):
        for action in BY_WEAVING:
            self.assertEqual(raised(action, RACE, [1, 1]), (InvalidWeaving, {"position": 1}))
            self.assertEqual(raised(action, RACE, [1, 0, 0, 7]), (InvalidWeaving, {"position": 2}))
            self.assertEqual(raised(action, RACE, [0, ("fall", 0)]), (InvalidWeaving, {"position": 1}))

    def test_what_was_passed_and_told_can_be_changed(self):
        weaving = [1]
        told = named(RACE, weaving)
        told[0] = 7
        can_step(RACE, weaving).append(7)
        self.assertEqual((weaving, named(RACE, weaving), can_step(RACE, weaving)), ([1], {1: 1}, [0]))
        weaving.append(0)
        self.assertEqual((behind(RACE, [1]), behind(RACE, weaving)), (((0, 1), (1,)), ((2, 1), (1,))))

    def test_two_weavings_go_on_beside_each_other(self):
        one, other = [], []
        for step_of_one, step_of_other in ((0, 1), (1, 0)):
            one.append(step_of_one)
            other.append(step_of_other)
            self.assertEqual(behind(RACE, one), behind(RACE, list(one)))
        self.assertEqual((behind(RACE, one)[0], behind(RACE, other)[0]), ((1, 2), (2, 1)))


class Bad(unittest.TestCase):
    def test_a_hand_is_lost(self):
        program = Program([(switch(), 0)], [[("do", 0, "set", {0: 1}), ("end", 0)]] * 2)
        self.assertEqual([is_bad(program, weaving) for weaving in ([], [0], [1], [0, 1])], [False, False, True, True])

    def test_a_hand_is_named_that_has_made_no_step_by_then(self):
        self.assertEqual([is_bad(lookers(2), weaving) for weaving in ([0], [0, 1], [1])], [False, False, True])

    def test_what_is_bad_stays_bad(self):
        self.assertIs(is_bad(lookers(2), [1, 0]), True)
        self.assertIs(is_bad(lookers(3), [1, 0, 2]), True)
        self.assertIs(is_bad(HASTY, [1]), True)
        program = Program([(switch(), 1)], [[("do", 0, "set", {0: 1}), ("end", 0)], [("look", 0, {1: 1}), ("end", 1)]])
        self.assertEqual([is_bad(program, weaving) for weaving in ([1], [0], [0, 1])], [False, True, True])

    def test_the_step_that_leads_to_the_end_counts(self):
        script = [("look", 0, {0: 1}), ("end", 0)]
        other = [("look", 0, {0: 1}), ("look", 0, {0: 2}), ("end", 0)]
        program = Program([(switch(), 0)], [script, other])
        self.assertEqual([is_bad(program, weaving) for weaving in ([0], [1], [1, 0], [1, 0, 1], [1, 1])],
                         [False, False, False, False, True])

    def test_two_hands_name_unlike_ones(self):
        own = [[("look", 0, {0: 1}), ("end", hand)] for hand in (0, 1, 2)]
        program = Program([(switch(), 0)], own)
        self.assertEqual([is_bad(program, weaving) for weaving in ([0], [1], [1, 0], [2, 0])],
                         [False, False, True, True])
        self.assertIs(is_bad(program, [1, 0, 2]), True)


class Right(unittest.TestCase):
    def test_ordinary(self):
        self.assertIs(is_right(RACE), True)
        self.assertIs(is_right(program=HASTY), False)
        self.assertEqual((quarrel(program=RACE), shortest_quarrel(program=RACE)), (None, None))
        self.assertEqual((shortest_quarrel(HASTY), shortest_quarrel(lookers(2))), (1, 1))

    def test_the_same_with_one_node_otherwise(self):
        for ends, right in (((0, 1, 1, 0), True), ((1, 1, 1, 0), False), ((0, 0, 1, 0), False), ((0, 1, 0, 0), False),
                            ((0, 1, 1, 1), False)):
            scripts = [[SET, ("end", ends[0]), ("end", ends[1])], [SET, ("end", ends[2]), ("end", ends[3])]]
            self.assertIs(is_right(Program([(switch(), 0)], scripts)), right)
        for branches, right in (({0: 1, 1: 2, 7: 1}, True), ({0: 1}, False), ({0: 1, 1: 1}, False), ({1: 2}, False)):
            scripts = [[("do", 0, "set", branches)] + RACE.script(0)[1:], RACE.script(1)]
            self.assertIs(is_right(Program([(switch(), 0)], scripts)), right)
        self.assertIs(is_right(Program([(switch(), 1)], [RACE.script(0), RACE.script(1)])), False)

    def test_a_race_of_a_swapped_cell(self):
        scripts = [[("do", 0, "x", {0: 1, 2: 2}), ("end", 0), ("end", 1)],
                   [("do", 0, "y", {0: 1, 1: 2}), ("end", 1), ("end", 0)]]
        self.assertIs(is_right(Program([(swap(["x", "y"]), 0)], scripts)), True)

    def test_all(self):
        for program in some() + weaver.some_right_programs(12, 8):
            bad = [weaving for weaving, walk in weaver.all_weavings(program) if walk.bad]
            self.assertIs(is_right(program), not bad)
            found = quarrel(program)
            if bad:
                self.assertIn(found, bad)
                self.assertEqual(type(found), list)
                self.assertEqual(shortest_quarrel(program), min(len(weaving) for weaving in bad))
            else:
                self.assertEqual((found, shortest_quarrel(program)), (None, None))

    def test_is_quarrel(self):
        for program in some()[::4]:
            for weaving, walk in weaver.all_weavings(program):
                self.assertIs(is_quarrel(program, weaving), walk.bad)
                self.assertIs(is_quarrel(value=tuple(weaving), program=program), walk.bad)
                for longer in (weaving + [0], weaving + [1], weaving + [7]):
                    cannot = longer[-1] not in walk.all_that_can()
                    self.assertFalse(cannot and is_quarrel(program, longer))

    def test_any_value_in_is_quarrel(self):
        self.assertIs(is_quarrel(HASTY, [1]), True)
        values = NO_LISTS + [[], (), [0], [True], [1, True], [1, 7], [1, 1], [False, 1], [1, "0"], [None], [Equal()],
                             [1, Equal()], [[1]], [(1,)], [1, ("fall", 0)], [("fall", 0), 1], [1, -1], [1, 10 ** 29],
                             RACE, HASTY]
        for value in values:
            self.assertIs(is_quarrel(HASTY, value), False, repr(value))
            self.assertIs(is_quarrel(RACE, value), False, repr(value))

    def test_what_was_told_can_be_changed(self):
        quarrel(HASTY).append(7)
        self.assertTrue(is_quarrel(HASTY, quarrel(HASTY)))


class Full(unittest.TestCase):
    def test_ordinary(self):
        self.assertEqual((how_many_full(RACE), full_at(RACE, 0), full_at(RACE, 1)), (2, [0, 1], [1, 0]))
        self.assertEqual((how_many_full(program=RACE), full_at(place=1, program=RACE)), (2, [1, 0]))
        self.assertEqual((most_steps(program=RACE), all_names(program=RACE)), (2, [0, 1]))

    def test_all(self):
        for program in some():
            found = weaver.all_weavings(program)
            full = weaver.full_weavings(program)
            self.assertEqual(full, sorted(full))
            self.assertEqual(how_many_full(program), len(full))
            self.assertEqual([full_at(program, place) for place in range(len(full))], full)
            self.assertEqual(raised(full_at, program, len(full)), (NoSuch, {"value": len(full)}))
            self.assertEqual(most_steps(program), max(len(weaving) for weaving, _ in found))
            self.assertEqual(all_names(program), sorted({name for _, walk in found for name in walk.named}))

    def test_the_first_and_the_last_place_and_the_one_behind_it(self):
        program = program_of(KEPT)
        many = how_many_full(program)
        self.assertGreater(many, 1000)
        places = [0, 1, many // 2, many - 2, many - 1]
        found = [full_at(program, place) for place in places]
        self.assertEqual(found, sorted(found))
        self.assertEqual(found[0], sorted(found[0]))
        for weaving in found:
            self.assertEqual((can_step(program, weaving), can_step(program, weaving[:-1])), ([], [weaving[-1]]))
        for place in (many, many + 1, 10 ** 29):
            self.assertEqual(raised(full_at, program, place), (NoSuch, {"value": place}))

    def test_no_place(self):
        for place in NO_INTEGERS + [-1, -10 ** 29]:
            wrong = raised(full_at, RACE, place)
            self.assertEqual(wrong[0], InvalidPlace, repr(place))
            self.assertIs(wrong[1]["value"], place)

    def test_look_nodes(self):
        self.assertEqual((how_many_full(lookers(3)), most_steps(lookers(3)), all_names(lookers(3))), (6, 3, [0]))
        lost = lookers(2, keys=(1,))
        self.assertEqual((how_many_full(lost), most_steps(lost), all_names(lost)), (2, 2, []))
        script = [("look", 0, {0: 1, 1: 3}), ("do", 0, "set", {0: 2, 1: 2}), ("look", 0, {1: 3}), ("end", 1)]
        program = Program([(switch(), 0)], [script, script])
        self.assertEqual((how_many_full(program), most_steps(program), all_names(program)), (16, 6, [1]))

    def test_names_behind_what_is_bad(self):
        program = Program([(switch(), 0)], [[("look", 0, {0: 1}), ("end", 1)], [("look", 0, {0: 1}), ("end", 0)]])
        self.assertEqual((all_names(program), how_many_full(program)), ([0, 1], 2))

    def test_long_scripts(self):
        script = [("look", 0, {0: node + 1}) for node in range(199)] + [("end", 0)]
        program = Program([(box(["x"]), 0)], [script, script])
        self.assertEqual((most_steps(program), len(full_at(program, how_many_full(program) - 1))), (398, 398))
        self.assertEqual(shortest_quarrel(program), 199)

    def test_what_was_told_can_be_changed(self):
        full_at(RACE, 0).append(7)
        all_names(RACE).append(7)
        self.assertEqual((full_at(RACE, 0), all_names(RACE)), ([0, 1], [0, 1]))


if __name__ == "__main__":
    unittest.main()
