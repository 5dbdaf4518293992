"""Critical weavings of right programs, and the layouts that are read off there."""

import unittest

from settlesfirst.building import exchanged, program_of, settle
from settlesfirst.errors import InvalidWeaving, NotCritical, NotRight
from settlesfirst.layouts import Layout
from settlesfirst.makers import box, counter, keep, ladder, swap
from settlesfirst.places import (
    critical, is_critical, is_open, layout_at, least_critical, longest_open, next_names, outcomes,
)
from settlesfirst.power import power, telling_layouts
from settlesfirst.programs import Program
from settlesfirst.telling import tells
from settlesfirst.weavings import behind, full_at, how_many_full, is_right, named
from tests import weaver
from tests.values import NO_INTEGERS, NO_LISTS, Equal, raised, some_things, switch

SET = ("do", 0, "set", {0: 1, 1: 2})
RACE = Program([(switch(), 0)], [[SET, ("end", 0), ("end", 1)], [SET, ("end", 1), ("end", 0)]])
WRONG = Program([(switch(), 0)], [[SET, ("end", 0), ("end", 1)], [SET, ("end", 1), ("end", 1)]])
PAIR = Layout(switch(), 0, ["set"], ["set"])
WELL_KNOWN = [switch(), keep(["x", "y"]), swap(["x", "y"]), counter(3), ladder(3), ladder(4), keep(["x", "y", "z"])]
BY_WEAVING = [outcomes, is_open, next_names, layout_at]
BY_PROGRAM = [critical, least_critical, longest_open]


def with_looks_ahead(program):
    """The same program, but each hand looks at a thing first."""
    things = program.things
    scripts = []
    for hand in range(program.hands):
        script = [("look", 0, {state: 1 for state in range(things[0][0].states)})]
        for node in program.script(hand):
            if node[0] != "end":
                node = node[:-1] + ({heard: after + 1 for heard, after in node[-1].items()},)
            script.append(node)
        scripts.append(script)
    return Program(things, scripts)


def small_programs():
    """Right programs with few weavings."""
    found = weaver.some_right_programs(40, 21) + [RACE, exchanged(RACE, [1, 0]), with_looks_ahead(RACE)]
    return found + [settle(thing, 2) for thing in WELL_KNOWN] + [with_looks_ahead(settle(swap(["x", "y"]), 2))]


def large_programs():
    found = []
    for thing in WELL_KNOWN + some_things(20, 77):
        for number in range(2, power(thing) + 1):
            many = 1 if number == 4 else 3
            found += [program_of(layout) for layout in list(telling_layouts(thing, number))[:many]]
    return found


class Outcomes(unittest.TestCase):
    def test_ordinary(self):
        self.assertEqual((outcomes(RACE, []), outcomes(RACE, [1]), outcomes(RACE, [1, 0])), ([0, 1], [1], [1]))
        self.assertEqual((is_open(RACE, []), is_open(RACE, [0]), is_open(RACE, (0, 1))), (True, False, False))
        self.assertEqual((outcomes(weaving=[0], program=RACE), is_open(weaving=(), program=RACE)), ([0], True))

    def test_all(self):
        for program in small_programs():
            found = weaver.all_outcomes(program)
            for weaving in list(found)[:60]:
                self.assertEqual(outcomes(program, list(weaving)), found[weaving])
                self.assertIs(is_open(program, weaving), len(found[weaving]) > 1)

    def test_three_hands(self):
        program = settle(keep(["x", "y"]), 3)
        self.assertEqual((outcomes(program, []), is_open(program, [])), ([0, 1, 2], True))
        full = full_at(program, how_many_full(program) // 3)
        self.assertEqual(outcomes(program, full), sorted(set(named(program, full).values())))
        many = [len(outcomes(program, full[:steps])) for steps in range(len(full) + 1)]
        self.assertEqual((many[0], many[-1], many), (3, 1, sorted(many, reverse=True)))

    def test_what_was_told_can_be_changed(self):
        outcomes(RACE, []).append(7)
        critical(RACE).append(7)
        next_names(RACE, []).append(7)
        layout_at(RACE, [])[2].append(7)
        self.assertEqual((outcomes(RACE, []), critical(RACE), next_names(RACE, [])), ([0, 1], [], [0, 1]))
        self.assertEqual(layout_at(RACE, []), (0, PAIR, [0, 1]))


class Critical(unittest.TestCase):
    def test_ordinary(self):
        self.assertEqual((critical(RACE), is_critical(RACE, []), is_critical(RACE, [0])), ([], True, False))
        self.assertEqual((least_critical(RACE), longest_open(RACE)), (0, 0))
        self.assertEqual((critical(program=RACE), is_critical(value=(), program=RACE)), ([], True))
        self.assertEqual((least_critical(program=RACE), longest_open(program=RACE)), (0, 0))

    def test_looks_ahead(self):
        program = with_looks_ahead(RACE)
        self.assertEqual((critical(program) in ([0, 1], [1, 0]), least_critical(program), longest_open(program)),
                         (True, 2, 2))
        self.assertEqual([is_critical(program, weaving) for weaving in ([], [0], [1], [0, 1], [1, 0], [0, 0], [0, 1, 1])],
                         [False, False, False, True, True, False, False])

    def test_all(self):
        lengths = set()
        for program in small_programs():
            weavings = weaver.all_outcomes(program)
            expected = weaver.critical_weavings(program)
            self.assertIn(critical(program), expected)
            self.assertEqual(type(critical(program)), list)
            self.assertEqual(least_critical(program), min(len(weaving) for weaving in expected))
            opened = [len(weaving) for weaving, names in weavings.items() if len(names) > 1]
            self.assertEqual(longest_open(program), max(opened))
            for weaving in list(weavings)[:60]:
                self.assertIs(is_critical(program, weaving), list(weaving) in expected)
                self.assertIs(is_critical(program, list(weaving)), list(weaving) in expected)
            lengths.add(least_critical(program))
        self.assertTrue({0, 1, 2} <= lengths, lengths)

    def test_programs_of_two_three_and_four_hands(self):
        hands = set()
        for program in large_programs():
            weaving = critical(program)
            self.assertIs(is_critical(program, weaving), True)
            self.assertTrue(least_critical(program) <= len(weaving) <= longest_open(program))
            for hand in range(program.hands):
                self.assertFalse(is_open(program, weaving + [hand]))
                self.assertEqual(outcomes(program, weaving + [hand]), [next_names(program, weaving)[hand]])
            for steps in range(0, len(weaving), 5):
                self.assertFalse(is_critical(program, weaving[:steps]))
                self.assertTrue(is_open(program, weaving[:steps]))
            hands.add(program.hands)
        self.assertEqual(hands, {2, 3, 4})

    def test_any_value(self):
        for value in NO_LISTS + [[7], [True], [False], [None], [Equal()], [[0]], [("fall", 0)], [0, 0], [1, 0, 1], RACE]:
            for program in (RACE, WRONG, with_looks_ahead(RACE)):
                self.assertIs(is_critical(program, value), False, repr(value))
        self.assertIs(is_critical(with_looks_ahead(RACE), [False, True]), False)
        self.assertIs(is_critical(with_looks_ahead(RACE), [0, 1]), True)

    def test_of_a_program_that_is_not_right(self):
        for weaving in ([], [0], [1], [0, 1]):
            self.assertIs(is_critical(WRONG, weaving), False)


class ReadOff(unittest.TestCase):
    def test_ordinary(self):
        self.assertEqual((next_names(RACE, []), layout_at(RACE, [])), ([0, 1], (0, PAIR, [0, 1])))
        self.assertEqual((next_names(weaving=(), program=RACE), layout_at(weaving=(), program=RACE)[0]), ([0, 1], 0))
        number, layout, hands = layout_at(RACE, [])
        self.assertEqual([type(number), type(layout), type(hands), type(layout_at(RACE, []))], [int, Layout, list, tuple])

    def test_the_team_of_hand_0_is_team_0(self):
        for order in ([0, 1, 2], [1, 0, 2], [2, 1, 0], [1, 2, 0]):
            program = exchanged(settle(keep(["x", "y"]), 3), order)
            weaving = critical(program)
            names = next_names(program, weaving)
            number, layout, hands = layout_at(program, weaving)
            self.assertEqual(layout.team(hands.index(0)), 0)
            for hand in range(3):
                self.assertEqual(layout.team(hands.index(hand)), int(names[hand] != names[0]))
                self.assertEqual(layout.deed(hands.index(hand)), program.script(hand)[behind(program, weaving)[0][hand]][2])

    def test_hands_of_one_team_with_one_deed(self):
        kept = keep(["x", "y"])
        for deeds, hands in ((["x", "y", "x", "y"], [0, 2, 1, 3]), (["y", "x", "x", "y"], [0, 3, 1, 2])):
            program = team_race(kept, deeds, [int(deed != deeds[0]) for deed in deeds])
            self.assertTrue(is_right(program))
            number, layout, found = layout_at(program, critical(program))
            other = "y" if deeds[0] == "x" else "x"
            self.assertEqual((layout, found), (Layout(kept, 0, [deeds[0]] * 2, [other] * 2), hands))
            self.assertEqual((number, program.things[number]), (4, (kept, 0)))

    def test_the_sequence_of_deeds_is_that_of_the_thing(self):
        kept = keep(["w", "x", "y"])
        program = team_race(kept, ["y", "x", "w", "x"], [0, 1, 0, 1])
        self.assertTrue(is_right(program))
        _, layout, hands = layout_at(program, critical(program))
        self.assertEqual((layout, hands), (Layout(kept, 0, ["w", "y"], ["x", "x"]), [2, 0, 1, 3]))

    def test_all(self):
        thing_numbers, states = set(), set()
        for program in small_programs() + large_programs():
            weaving = critical(program)
            names = next_names(program, weaving)
            number, layout, hands = layout_at(program, weaving)
            nodes, reached = behind(program, weaving)
            moves = [program.script(hand)[nodes[hand]] for hand in range(program.hands)]
            self.assertEqual([move[:2] for move in moves], [("do", number)] * program.hands)
            self.assertEqual((layout.thing, layout.state), (program.things[number][0], reached[number]))
            self.assertTrue(tells(layout))
            self.assertEqual(sorted(hands), list(range(program.hands)))
            rows = [(int(names[hand] != names[0]), layout.thing.deeds.index(moves[hand][2]), hand) for hand in hands]
            self.assertEqual(rows, sorted(rows))
            self.assertEqual([layout.team(seat) for seat in range(layout.hands)], [team for team, _, _ in rows])
            self.assertEqual([layout.deed(seat) for seat in range(layout.hands)], [moves[hand][2] for hand in hands])
            thing_numbers.add(number)
            states.add(layout.state)
        self.assertGreater(min(len(thing_numbers), len(states)), 1)

    def test_of_several_things_together(self):
        things = [box(["x"]), switch(), keep(["x", "y"]), box(["x", "y"])]
        program = settle(keep(["x", "y"]), 4)
        mixed = Program([(thing, 0) for thing in things] + program.things, [
            [node if node[0] == "end" else (node[0], node[1] + 4) + node[2:] for node in program.script(hand)]
            for hand in range(4)])
        weaving = critical(mixed)
        number, layout, _ = layout_at(mixed, weaving)
        self.assertEqual((number, tells(layout)), (layout_at(program, weaving)[0] + 4, True))


def team_race(thing, deeds, teams):
    """Two hands of each team: they settle a champion with a cell of their own, then both teams do with a thing."""
    cell = keep(["a", "b"])
    begun = [(cell, 0), (cell, 0), (box(["a", "b"]), 0), (box(["a", "b"]), 0), (thing, 0)]
    groups = [[hand for hand in range(4) if teams[hand] == team] for team in (0, 1)]
    began = {thing(0, deed)[1]: team for deed, team in zip(deeds, teams)}
    scripts = []
    for hand in range(4):
        own, rest = teams[hand], 1 - teams[hand]
        script = [("do", own, "ab"[groups[own].index(hand)], {0: 1}), ("look", own, {1: 2, 2: 5})]
        for champion, at in ((0, 2), (1, 5)):
            behind_all = {state: 9 + champion if team == own else 8 for state, team in began.items()}
            script += [("do", 2 + own, "ab"[champion], {0: at + 1}), ("do", 4, deeds[hand], {0: at + 2}),
                       ("look", 4, behind_all)]
        script.append(("look", 2 + rest, {1: 11, 2: 12}))
        scripts.append(script + [("end", each) for each in groups[own] + groups[rest]])
    return Program(begun, scripts)


class Wrong(unittest.TestCase):
    def test_no_weaving(self):
        for action in BY_WEAVING:
            for program in (RACE, WRONG):
                for weaving in NO_LISTS:
                    self.assertEqual(raised(action, program, weaving), (InvalidWeaving, {"position": None}), repr(weaving))
                for hand in NO_INTEGERS + [-1, 2, 10 ** 29, ("fall", 0)]:
                    wrong = raised(action, program, [0, hand, 7])
                    self.assertEqual(wrong, (InvalidWeaving, {"position": 1}), repr(hand))
                self.assertEqual(raised(action, program, (1, 0, 1)), (InvalidWeaving, {"position": 2}))

    def test_not_right(self):
        for action in BY_WEAVING:
            for weaving in ([], [0], [1, 0]):
                self.assertEqual(raised(action, WRONG, weaving), (NotRight, {}))
        for action in BY_PROGRAM:
            self.assertEqual(raised(action, WRONG), (NotRight, {}))
        for program in weaver.some_programs(30, 5):
            for action in BY_PROGRAM:
                self.assertEqual(raised(action, program) == (NotRight, {}), not weaver.is_right(program))

    def test_not_critical(self):
        ahead = with_looks_ahead(RACE)
        for action in (next_names, layout_at):
            for program, weaving in ((RACE, [0]), (RACE, (1, 0)), (RACE, [1]), (ahead, []), (ahead, [0]), (ahead, (0, 0)),
                                     (ahead, [0, 1, 1])):
                wrong = raised(action, program, weaving)
                self.assertEqual((wrong[0], list(wrong[1])), (NotCritical, ["value"]))
                self.assertIs(wrong[1]["value"], weaving)

    def test_not_right_is_ahead_of_not_critical(self):
        for action in (next_names, layout_at):
            self.assertEqual(raised(action, WRONG, [0]), (NotRight, {}))
            self.assertEqual(raised(action, WRONG, [0, 0]), (InvalidWeaving, {"position": 1}))


if __name__ == "__main__":
    unittest.main()
