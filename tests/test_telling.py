"""Telling: blots, verdicts, and what two deeds do to each other."""

import unittest

from settlesfirst.errors import InvalidDeed, InvalidHand, InvalidState, NotTelling
from settlesfirst.layouts import Layout
from settlesfirst.makers import box, counter, keep, ladder, swap
from settlesfirst.telling import (
    answers_tell, blot, blotted, commute, covers, is_blot, is_unseen, shortest_blot, states_tell, tells, verdict,
    verdicts,
)
from settlesfirst.things import Thing
from tests import plain
from tests.values import NO_INTEGERS, NO_NAMES, Equal, raised, some_things, switch

PAIR = Layout(switch(), 0, ["set"], ["set"])
THREE = Layout(switch(), 0, ["set"], ["set", "set"])
KEPT = Layout(keep(["x", "y"]), 0, ["x", "x"], ["y", "y", "y"])
MADE = keep(["a", "b", "c", "d"]) | swap(["x", "y"]) | ladder(4)


def some_layouts():
    """Layouts of two to four hands, of several things, of which many tell and many do not."""
    things = some_things(14, 5) + [switch(), counter(3), keep(["x", "y", "z"]), swap(["x", "y"]), ladder(3), box(["x"])]
    found = []
    for thing in things:
        for number in (2, 3, 4):
            found.extend(plain.layouts(thing, number)[::4])
    return found + [~layout for layout in found[::3]]


class Tells(unittest.TestCase):
    def test_ordinary(self):
        self.assertIs(tells(PAIR), True)
        self.assertIs(tells(layout=THREE), False)
        self.assertIs(tells(KEPT), True)
        self.assertIs(tells(Layout(switch(), 1, ["set"], ["set"])), False)

    def test_five_hands(self):
        for many in (1, 2, 3, 4):
            self.assertTrue(tells(Layout(keep(["x", "y"]), 0, ["x"] * many, ["y"] * (5 - many))))
            self.assertFalse(tells(Layout(keep(["x", "y"]), 0, ["x"] * many, ["y"] * (4 - many) + ["x"])))

    def test_the_state_behind_the_whole_order_counts(self):
        self.assertEqual([tells(Layout(ladder(size), 0, ["left"], ["right"])) for size in (1, 2)], [False, True])
        self.assertFalse(tells(Layout(ladder(2), 0, ["left"], ["right", "right"])))
        self.assertTrue(tells(Layout(ladder(3), 0, ["left"], ["right", "right"])))

    def test_all(self):
        found = {True: 0, False: 0}
        for layout in some_layouts():
            expected = plain.tells(layout)
            self.assertIs(tells(layout), expected, repr(layout))
            found[expected] += 1
        self.assertGreater(min(found.values()), 20)

    def test_of_a_thing_made_of_others(self):
        self.assertEqual(MADE.states, 5 * 3 * 9)
        self.assertTrue(tells(Layout(MADE, 9, ["a"], ["b", "b", "c"])))
        self.assertFalse(tells(Layout(MADE, 9, ["a"], ["b", "x"])))
        self.assertTrue(tells(Layout(MADE, 126, ["left"], ["right", "right"])))
        self.assertFalse(tells(Layout(MADE, 127, ["left"], ["right"])))


class Blots(unittest.TestCase):
    def test_a_blot_is_shown(self):
        for layout in some_layouts():
            found = blot(layout)
            if plain.tells(layout):
                self.assertIsNone(found)
            else:
                hand, one, other = found
                self.assertEqual([type(found), type(hand), type(one), type(other)], [tuple, int, list, list])
                self.assertIn((hand, tuple(one), tuple(other)), plain.blots(layout))
                self.assertIs(is_blot(layout, found), True)

    def test_by_name(self):
        self.assertIsNone(blot(layout=PAIR))
        self.assertTrue(is_blot(value=blot(layout=THREE), layout=THREE))
        self.assertEqual((blotted(layout=THREE), shortest_blot(layout=THREE)), ([1, 2], 4))

    def test_a_blot_can_be_changed(self):
        before = blot(THREE)
        blot(THREE)[1].append(7)
        blotted(THREE).append(7)
        self.assertEqual((blot(THREE), blotted(THREE)), (before, [1, 2]))

    def test_all_values_are_told_apart(self):
        for layout in some_layouts()[::9]:
            orders = plain.orders(layout.hands)
            expected = set(plain.blots(layout))
            for hand in range(layout.hands):
                for one in orders[::2]:
                    for other in orders[::3]:
                        value = (hand, one, other)
                        self.assertIs(is_blot(layout, value), (hand, tuple(one), tuple(other)) in expected)

    def test_is_blot(self):
        for value in [(1, [0, 1], [2, 1]), (1, (0, 1), [2, 1]), (1, (0, 1), (2, 1)), (2, [0, 2], [1, 2])]:
            self.assertIs(is_blot(THREE, value), True, repr(value))

    def test_is_no_blot(self):
        values = [
            [1, [0, 1], [2, 1]], (1, [0, 1]), (1, [0, 1], [2, 1], 0), (1, [2, 1], [0, 1]), (0, [0, 1], [2, 1]),
            (1, [0, 1], [1]), (1, [0], [2, 1]), (1, [0, 1], [2]), (1, [0, 1], [2, 1, 1]), (1, [0, 1], [2, 1, 3]),
            (True, [0, 1], [2, 1]), (1, [False, 1], [2, 1]), (1, [0, True], [2, 1]), (1, [0, 1], [2, True]),
            (3, [0, 1], [2, 1]), (-1, [0, 1], [2, 1]), (1, [], [2, 1]), (1, [0, 1], []), (1, None, [2, 1]),
            (1, [0, 1], None), (1, {0: 1}, [2, 1]), (1, "01", "21"), (1, [0, 1], [0, 1]), (1, [2, 1], [2, 1]),
            (1, [[0], 1], [2, 1]), (1, [0, "1"], [2, 1]), ("1", [0, 1], [2, 1]), (1, [Equal(), 1], [2, 1]), (), [],
            (Equal(), Equal(), Equal()), None, 0, True, "", "abc", {}, {1, 2, 3}, Equal(), THREE, switch(),
        ]
        for value in values:
            self.assertIs(is_blot(THREE, value), False, repr(value))
            self.assertIs(is_blot(PAIR, value), False, repr(value))

    def test_blotted_and_shortest(self):
        for layout in some_layouts():
            blots = plain.blots(layout)
            self.assertEqual(blotted(layout), sorted({hand for hand, _, _ in blots}))
            lengths = [len(one) + len(other) for _, one, other in blots]
            self.assertEqual(shortest_blot(layout), min(lengths, default=None))

    def test_the_shortest_can_be_long(self):
        layout = Layout(ladder(3), 0, ["left", "left"], ["right", "right"])
        self.assertEqual((tells(layout), shortest_blot(layout)), (False, 8))
        self.assertEqual(blotted(layout), [0, 1, 2, 3])
        self.assertEqual(shortest_blot(Layout(box(["x"]), 0, ["x"], ["x"])), 3)
        self.assertIsNone(shortest_blot(PAIR))
        self.assertEqual(blotted(PAIR), [])


class Verdicts(unittest.TestCase):
    def test_ordinary(self):
        self.assertEqual(verdicts(PAIR), [{(0, 1): 0, (1, 1): 1}, {(0, 1): 1, (1, 1): 0}])
        self.assertEqual(verdicts(layout=KEPT), [{(0, 1): 0, (0, 2): 1}] * 5)

    def test_all(self):
        for layout in some_layouts():
            if not plain.tells(layout):
                self.assertEqual(raised(verdicts, layout), (NotTelling, {}))
                continue
            found = verdicts(layout)
            self.assertEqual((type(found), len(found)), (list, layout.hands))
            for hand in range(layout.hands):
                expected = plain.marks(layout, hand)
                self.assertEqual(list(found[hand]), sorted(expected))
                for mark, orders in expected.items():
                    team = plain.team(layout, orders[0][0])
                    self.assertEqual((found[hand][mark], type(found[hand][mark])), (team, int))
                    self.assertEqual((verdict(layout, hand, mark), type(verdict(layout, hand, mark))), (team, int))

    def test_they_can_be_changed(self):
        found = verdicts(PAIR)
        found[0].clear()
        found.clear()
        self.assertEqual(verdicts(PAIR), [{(0, 1): 0, (1, 1): 1}, {(0, 1): 1, (1, 1): 0}])

    def test_verdict(self):
        self.assertEqual([verdict(PAIR, 0, (0, 1)), verdict(PAIR, 0, (1, 1)), verdict(PAIR, 1, (1, 1))], [0, 1, 0])
        self.assertEqual(verdict(mark=(0, 1), hand=1, layout=PAIR), 1)

    def test_no_mark(self):
        values = [(0, 0), (2, 1), (0, 1, 0), (0,), (), [0, 1], [], None, 0, 1, True, "", "01", {}, {0: 1}, {0, 1},
                  (0, True), (False, 1), (True, 1), (True, True), ([0], 1), (0, [1]), (0, {}), ("0", 1), (0, None),
                  ((0, 1),), (Equal(), Equal()), Equal(), object(), switch(), PAIR, (10 ** 29, 1)]
        for value in values:
            for hand in (0, 1):
                self.assertIsNone(verdict(PAIR, hand, value), repr(value))

    def test_no_hand(self):
        for layout in (PAIR, THREE):
            for hand in NO_INTEGERS + [-1, layout.hands, 10 ** 29]:
                for wrong in (raised(verdict, layout, hand, (0, 1)), raised(answers_tell, layout, hand)):
                    self.assertEqual(wrong[0], InvalidHand, repr(hand))
                    self.assertIs(wrong[1]["value"], hand)

    def test_not_telling(self):
        for hand in (0, 1, 2):
            for mark in ((0, 1), (5, 5), None):
                self.assertEqual(raised(verdict, THREE, hand, mark), (NotTelling, {}))
        self.assertEqual(raised(verdicts, THREE), (NotTelling, {}))


class WhatTells(unittest.TestCase):
    def test_answers(self):
        self.assertIs(answers_tell(PAIR, 0), True)
        self.assertIs(answers_tell(hand=0, layout=THREE), True)
        self.assertIs(answers_tell(THREE, 1), False)
        self.assertIs(answers_tell(KEPT, 0), False)

    def test_states(self):
        self.assertEqual([states_tell(PAIR), states_tell(layout=THREE), states_tell(KEPT)], [False, False, True])
        self.assertEqual([type(states_tell(layout)) for layout in (PAIR, KEPT)], [bool, bool])

    def test_all(self):
        for layout in some_layouts():
            by_answers = []
            for hand in range(layout.hands):
                begun = {}
                for (answer, _), orders in plain.marks(layout, hand).items():
                    begun.setdefault(answer, set()).update(plain.begun(layout, orders))
                expected = all(len(teams) == 1 for teams in begun.values())
                by_answers.append(answers_tell(layout, hand))
                self.assertIs(by_answers[hand], expected)
            expected = not set(plain.ends(layout, 0)) & set(plain.ends(layout, 1))
            self.assertIs(states_tell(layout), expected)
            if expected or all(by_answers):
                self.assertTrue(tells(layout))

    def test_neither_is_needed(self):
        thing = Thing(["a", "b"], [[(0, 1), (0, 2)], [(1, 1), (0, 3)], [(0, 1), (0, 2)], [(0, 0), (0, 0)]])
        found = [layout for layout in plain.layouts(thing, 2) if tells(layout) and not states_tell(layout)
                 and not all(answers_tell(layout, hand) for hand in range(2))]
        self.assertTrue(found)

    def test_without_a_hand_it_tells_too(self):
        for layout in some_layouts():
            if tells(layout):
                self.assertTrue(all(tells(fewer) for fewer in plain.with_fewer(layout)))


class TwoDeeds(unittest.TestCase):
    def test_ordinary(self):
        boxed = box(["x", "y"])
        self.assertEqual([commute(boxed, 0, "x", "y"), commute(boxed, 0, "x", "x")], [False, True])
        self.assertEqual([covers(boxed, 0, "x", "y"), covers(keep(["x", "y"]), 0, "x", "y")], [True, False])
        self.assertEqual([is_unseen(boxed, 0, "x", "y"), is_unseen(switch(), 0, "set", "set")], [True, False])
        self.assertEqual(is_unseen(switch(), 1, "set", "set"), True)

    def test_covers_has_a_direction(self):
        thing = Thing(["put", "look"], [[(0, 1), (0, 0)], [(0, 1), (1, 1)]])
        self.assertEqual([covers(thing, 0, "put", "look"), covers(thing, 0, "look", "put")], [True, False])
        self.assertEqual([is_unseen(thing, 0, "put", "look"), is_unseen(thing, 0, "look", "put")], [True, False])

    def test_by_name(self):
        for action in (commute, covers, is_unseen):
            found = action(other="y", one="x", state=0, thing=box(["x", "y"]))
            self.assertIs(found, action(box(["x", "y"]), 0, "x", "y"))

    def test_all(self):
        for thing in some_things(30, 8) + [MADE.part(0, ["a", "x", "left"])]:
            for state in range(thing.states):
                for one in thing.deeds:
                    for other in thing.deeds:
                        answers, both = plain.done(thing, state, [other, one])
                        alone, after = plain.done(thing, state, [one])
                        commutes = both == plain.done(thing, state, [one, other])[1]
                        self.assertIs(commute(thing, state, one, other), commutes)
                        self.assertIs(covers(thing, state, one, other), both == after)
                        unseen = answers[1] == alone[0] and (commutes or both == after)
                        self.assertIs(is_unseen(thing, state, one, other), unseen)

    def test_two_hands_tell_if_neither_is_unseen(self):
        for thing in some_things(30, 9):
            for state in range(thing.states):
                for one in thing.deeds:
                    for other in thing.deeds:
                        unseen = is_unseen(thing, state, one, other) or is_unseen(thing, state, other, one)
                        self.assertEqual(tells(Layout.of_two(thing, state, one, other)), not unseen)

    def test_errors(self):
        thing = box(["x", "y"])
        for action in (commute, covers, is_unseen):
            for state in NO_INTEGERS + [-1, 3, 10 ** 29]:
                wrong = raised(action, thing, state, "z", "z")
                self.assertEqual(wrong[0], InvalidState, repr(state))
                self.assertIs(wrong[1]["value"], state)
            for deed in NO_NAMES + ["z"]:
                wrong = raised(action, thing, 0, deed, "w")
                self.assertEqual(wrong[0], InvalidDeed, repr(deed))
                self.assertIs(wrong[1]["value"], deed)
                wrong = raised(action, thing, 2, "y", deed)
                self.assertEqual(wrong[0], InvalidDeed, repr(deed))
                self.assertIs(wrong[1]["value"], deed)


if __name__ == "__main__":
    unittest.main()
