"""Layouts: what is taken, what is told, and every error of the class."""

import inspect
import unittest
from itertools import combinations_with_replacement

from settlesfirst.errors import (
    InvalidDeed, InvalidHand, InvalidLayout, InvalidOrder, InvalidState, InvalidTeam, LastOne, NotInIt, OtherThing,
    TooMany,
)
from settlesfirst.layouts import Layout
from settlesfirst.makers import box, counter, keep, ladder, swap
from settlesfirst.things import Thing
from tests import plain
from tests.values import NO_INTEGERS, NO_LISTS, NO_NAMES, raised, some_things, switch

PAIR = Layout(switch(), 0, ["set"], ["set"])
KEPT = keep(["x", "y", "z"])
FIVE = Layout(KEPT, 0, ["z", "x", "x"], ["y", "x"])
NO_STATES = NO_INTEGERS + [-1, 4, 10 ** 29]
NO_TEAMS = NO_INTEGERS + [-1, 2, 10 ** 29]


def parts(layout):
    return layout.thing, layout.state, layout.first, layout.second


def some_layouts(seed, most_hands=4):
    """Layouts of several things, made in each way in which hands may be in teams."""
    found = []
    for thing in some_things(12, seed):
        for number in range(2, most_hands + 1):
            found.extend(plain.layouts(thing, number)[::3])
    return found + [~layout for layout in found[::4]]


class Making(unittest.TestCase):
    def test_ordinary(self):
        self.assertEqual(parts(PAIR), (switch(), 0, ["set"], ["set"]))
        self.assertEqual((PAIR.hands, len(PAIR)), (2, 2))

    def test_teams_are_in_the_sequence_of_the_thing(self):
        thing = Thing(["y", "z", "x"], [[(0, 0)] * 3])
        layout = Layout(thing, 0, ["x", "y", "x"], ["z", "y"])
        self.assertEqual((layout.first, layout.second), (["y", "x", "x"], ["y", "z"]))
        self.assertEqual([layout.deed(hand) for hand in range(5)], ["y", "x", "x", "y", "z"])
        self.assertEqual([layout.team(hand) for hand in range(5)], [0, 0, 0, 1, 1])
        self.assertEqual([type(layout.team(hand)) for hand in range(5)], [int] * 5)
        self.assertEqual(layout, Layout(thing, 0, ["x", "x", "y"], ["y", "z"]))

    def test_tuples_and_names(self):
        self.assertEqual(Layout(switch(), 0, ("set",), ("set",)), PAIR)
        self.assertEqual(Layout(second=["set"], first=["set"], state=0, thing=switch()), PAIR)
        self.assertEqual(type(Layout(switch(), 0, ("set",), ("set",)).first), list)

    def test_two_to_five_hands(self):
        for hands in range(2, 6):
            for many in range(1, hands):
                layout = Layout(switch(), 1, ["set"] * many, ["set"] * (hands - many))
                self.assertEqual((layout.hands, len(layout)), (hands, hands))
                self.assertEqual((len(layout.first), len(layout.second)), (many, hands - many))

    def test_a_sixth_hand(self):
        for many in range(1, 6):
            wrong = raised(Layout, switch(), 1, ["set"] * many, ["set"] * (6 - many))
            self.assertEqual(wrong, (TooMany, {"what": "hands", "limit": 5}))
        self.assertEqual(raised(Layout, switch(), 1, ["set"] * 1000, ["set"])[0], TooMany)

    def test_no_state(self):
        for state in NO_STATES:
            wrong = raised(Layout, KEPT, state, ["x"], ["y"])
            self.assertEqual(wrong[0], InvalidState, repr(state))
            self.assertIs(wrong[1]["value"], state)

    def test_no_team(self):
        for team in NO_LISTS + [[], ()] + [[name] for name in NO_NAMES] + [["x", "a"], ["x", None], [["x"]], ["X"]]:
            for wrong in (raised(Layout, KEPT, 0, team, ["y"]), raised(Layout, KEPT, 0, ["y"], team)):
                self.assertEqual(wrong[0], InvalidTeam, repr(team))
                self.assertIs(wrong[1]["value"], team)

    def test_the_first_error_is_raised(self):
        self.assertEqual(raised(Layout, KEPT, 4, [], []), (InvalidState, {"value": 4}))
        self.assertEqual(raised(Layout, KEPT, 3, "x", 7), (InvalidTeam, {"value": "x"}))
        self.assertEqual(raised(Layout, KEPT, 3, ["x"] * 6, 7), (InvalidTeam, {"value": 7}))
        self.assertEqual(raised(Layout, KEPT, True, ["x"] * 6, ["x"]), (InvalidState, {"value": True}))

    def test_what_was_passed_can_be_changed(self):
        first, second = ["x"], ["y", "x"]
        layout = Layout(KEPT, 0, first, second)
        self.assertEqual((first, second), (["x"], ["y", "x"]))
        first.append("z")
        second[0] = "z"
        self.assertEqual(parts(layout), (KEPT, 0, ["x"], ["x", "y"]))

    def test_what_was_told_can_be_changed(self):
        layout = Layout(KEPT, 0, ["x"], ["x", "y"])
        layout.first.append("z")
        layout.second.clear()
        layout.behind([0])[0].append(7)
        layout.marks(0).clear()
        layout.marks(1).popitem()[1].append(7)
        layout.ends(0).append(7)
        for order in layout.orders():
            order.clear()
        self.assertEqual(layout, Layout(KEPT, 0, ["x"], ["x", "y"]))
        self.assertEqual(layout.marks(0), {(0, 1): [0, 1], (0, 2): [1]})
        self.assertEqual((layout.behind([0]), layout.ends(0)), (([0], 1), [1]))

    def test_a_part_cannot_be_set(self):
        for name in ("thing", "state", "first", "second", "hands"):
            self.assertRaises(AttributeError, setattr, PAIR, name, 0)


class Hands(unittest.TestCase):
    def test_a_hand_that_is_none(self):
        for hand in NO_INTEGERS + [-1, 5, 10 ** 29]:
            for action in (FIVE.deed, FIVE.team, FIVE.marks, FIVE.without):
                wrong = raised(action, hand)
                self.assertEqual(wrong[0], InvalidHand, repr(hand))
                self.assertIs(wrong[1]["value"], hand)
            self.assertEqual(raised(FIVE.mark, hand, [0])[0], InvalidHand)

    def test_by_name(self):
        self.assertEqual((FIVE.deed(hand=2), FIVE.team(hand=3)), ("z", 1))


class Orders(unittest.TestCase):
    def test_all_in_their_sequence(self):
        for hands in range(2, 6):
            for many in range(1, hands):
                layout = Layout(switch(), 0, ["set"] * many, ["set"] * (hands - many))
                self.assertEqual(list(layout.orders()), plain.orders(hands))
                self.assertEqual(layout.how_many_orders(), len(plain.orders(hands)))
        self.assertEqual([type(order) for order in PAIR.orders()], [list] * 4)

    def test_how_many(self):
        layout = Layout(KEPT, 0, ["x"], ["y"])
        found = [layout.how_many_orders()]
        for _ in range(3):
            layout = layout.with_hand(1, "x")
            found.append(layout.how_many_orders())
        self.assertEqual(found, [4, 15, 64, 325])

    def test_they_are_made_when_they_are_asked_for(self):
        self.assertTrue(inspect.isgeneratorfunction(Layout.orders))
        walk = FIVE.orders()
        self.assertEqual([next(walk) for _ in range(6)], [[0], [1], [2], [3], [4], [0, 1]])

    def test_two_walks_go_on_beside_each_other(self):
        one, other = FIVE.orders(), FIVE.orders()
        beside = []
        for _ in range(100):
            beside.append((next(one), next(one), next(other)))
        expected = plain.orders(5)
        self.assertEqual([order for first, second, _ in beside for order in (first, second)], expected[:200])
        self.assertEqual([order for _, _, order in beside], expected[:100])
        self.assertEqual((list(one), list(other)), (expected[200:], expected[100:]))

    def test_an_order_that_is_changed_does_not_change_the_others(self):
        found = []
        for order in FIVE.orders():
            found.append(list(order))
            order.append(7)
            order[0] = 7
        self.assertEqual(found, plain.orders(5))


class Behind(unittest.TestCase):
    def test_ordinary(self):
        self.assertEqual(PAIR.behind([1, 0]), ([0, 1], 1))
        self.assertEqual(PAIR.behind(order=(1,)), ([0], 1))
        layout = Layout(swap(["x", "y"]), 1, ["y"], ["x", "y"])
        self.assertEqual(layout.behind([2, 0, 1]), ([1, 2, 2], 1))
        self.assertEqual(layout.behind((1, 2)), ([1, 1], 2))

    def test_all_orders(self):
        for layout in some_layouts(1, 3):
            for order in plain.orders(layout.hands):
                expected = plain.done(layout.thing, layout.state, [plain.deeds(layout)[hand] for hand in order])
                self.assertEqual(layout.behind(order), expected)
                self.assertEqual(type(layout.behind(order)), tuple)
                for hand in order:
                    self.assertEqual(layout.mark(hand, order), plain.mark(layout, hand, order))

    def test_mark(self):
        self.assertEqual((PAIR.mark(0, [1, 0]), PAIR.mark(1, [1, 0]), PAIR.mark(0, (0,))), ((1, 1), (0, 1), (0, 1)))
        self.assertEqual(PAIR.mark(order=[0, 1], hand=1), (1, 1))
        self.assertEqual(type(PAIR.mark(0, [0])), tuple)

    def test_the_state_is_that_behind_the_whole_order(self):
        layout = Layout(counter(5), 3, ["add"], ["add", "add"])
        self.assertEqual(layout.mark(0, [0, 1, 2]), (3, 1))
        self.assertEqual(layout.mark(0, [0, 1]), (3, 0))

    def test_orders_that_are_none(self):
        for order in NO_LISTS + [[], ()]:
            for wrong in (raised(FIVE.behind, order), raised(FIVE.mark, 0, order)):
                self.assertEqual(wrong, (InvalidOrder, {"position": None}), repr(order))

    def test_elements_that_are_no_hands(self):
        for hand in NO_INTEGERS + [-1, 5, 10 ** 29]:
            self.assertEqual(raised(FIVE.behind, [hand]), (InvalidOrder, {"position": 0}), repr(hand))
            self.assertEqual(raised(FIVE.behind, [0, 4, hand, 9]), (InvalidOrder, {"position": 2}), repr(hand))
            self.assertEqual(raised(FIVE.mark, 1, (1, hand, 1)), (InvalidOrder, {"position": 1}), repr(hand))

    def test_elements_that_stand_ahead(self):
        self.assertEqual(raised(FIVE.behind, [3, 3]), (InvalidOrder, {"position": 1}))
        self.assertEqual(raised(FIVE.behind, [0, 1, 2, 0, 7]), (InvalidOrder, {"position": 3}))
        self.assertEqual(raised(FIVE.mark, 0, [0, 1, 7, 0]), (InvalidOrder, {"position": 2}))

    def test_a_hand_that_is_not_in_it(self):
        self.assertEqual(raised(PAIR.mark, 1, [0]), (NotInIt, {"hand": 1}))
        self.assertEqual(raised(FIVE.mark, 0, (4, 3, 2, 1)), (NotInIt, {"hand": 0}))

    def test_the_first_error_is_raised(self):
        self.assertEqual(raised(FIVE.mark, 5, []), (InvalidHand, {"value": 5}))
        self.assertEqual(raised(FIVE.mark, True, [0]), (InvalidHand, {"value": True}))
        self.assertEqual(raised(FIVE.mark, 4, [0, 0]), (InvalidOrder, {"position": 1}))


class Marks(unittest.TestCase):
    def test_ordinary(self):
        self.assertEqual(PAIR.marks(0), {(0, 1): [0], (1, 1): [1]})
        self.assertEqual(PAIR.marks(hand=1), {(0, 1): [1], (1, 1): [0]})
        three = PAIR.with_hand(1, "set")
        self.assertEqual(three.marks(1), {(0, 1): [1], (1, 1): [0, 1]})

    def test_all(self):
        for layout in some_layouts(2):
            for hand in range(layout.hands):
                expected = plain.marks(layout, hand)
                found = layout.marks(hand)
                self.assertEqual(list(found), sorted(expected))
                for mark, orders in expected.items():
                    self.assertEqual(found[mark], plain.begun(layout, orders))
                    self.assertEqual([type(team) for team in found[mark]], [int] * len(found[mark]))

    def test_ends(self):
        self.assertEqual((PAIR.ends(0), PAIR.ends(team=1)), ([1], [1]))
        for layout in some_layouts(3):
            for team in (0, 1):
                self.assertEqual(layout.ends(team), plain.ends(layout, team))

    def test_ends_of_no_team(self):
        for team in NO_TEAMS:
            wrong = raised(PAIR.ends, team)
            self.assertEqual(wrong[0], InvalidTeam, repr(team))
            self.assertIs(wrong[1]["value"], team)

    def test_of_a_thing_made_of_others(self):
        thing = keep(["a", "b", "c", "d"]) | swap(["x", "y"]) | ladder(4)
        self.assertEqual((thing.states, len(thing.deeds)), (135, 8))
        layout = Layout(thing, 134, ["y", "right"], ["x", "left", "d"])
        self.assertEqual((layout.first, layout.second), (["y", "right"], ["d", "x", "left"]))
        self.assertEqual(list(layout.orders()), plain.orders(5))
        for hand in range(5):
            expected = plain.marks(layout, hand)
            self.assertEqual(layout.marks(hand),
                             {mark: plain.begun(layout, expected[mark]) for mark in sorted(expected)})
        self.assertEqual([layout.ends(0), layout.ends(1)], [plain.ends(layout, 0), plain.ends(layout, 1)])


class OneHandLessOrMore(unittest.TestCase):
    def test_without(self):
        self.assertEqual(FIVE, Layout(KEPT, 0, ["x", "x", "z"], ["x", "y"]))
        teams = [(["x", "z"], ["x", "y"]), (["x", "z"], ["x", "y"]), (["x", "x"], ["x", "y"]),
                 (["x", "x", "z"], ["y"]), (["x", "x", "z"], ["x"])]
        for hand, (first, second) in enumerate(teams):
            self.assertEqual(FIVE.without(hand), Layout(KEPT, 0, first, second))
        self.assertEqual(FIVE.without(hand=4).hands, 4)

    def test_without_the_last_one(self):
        self.assertEqual(raised(PAIR.without, 0), (LastOne, {"value": 0}))
        self.assertEqual(raised(PAIR.without, 1), (LastOne, {"value": 1}))
        layout = Layout(KEPT, 2, ["z"], ["x", "y", "y"])
        self.assertEqual(raised(layout.without, 0), (LastOne, {"value": 0}))
        self.assertEqual([layout.without(hand).hands for hand in (1, 2, 3)], [3, 3, 3])
        self.assertEqual(raised((~layout).without, 3), (LastOne, {"value": 3}))
        self.assertEqual(raised(PAIR.without, 2), (InvalidHand, {"value": 2}))
        self.assertEqual(raised(PAIR.without, True), (InvalidHand, {"value": True}))
        self.assertEqual([(~layout).without(hand).hands for hand in (0, 1, 2)], [3, 3, 3])

    def test_with_hand(self):
        layout = Layout(KEPT, 2, ["z"], ["y"])
        self.assertEqual(layout.with_hand(0, "x"), Layout(KEPT, 2, ["x", "z"], ["y"]))
        self.assertEqual(layout.with_hand(deed="z", team=1), Layout(KEPT, 2, ["z"], ["y", "z"]))
        self.assertEqual(layout, Layout(KEPT, 2, ["z"], ["y"]))

    def test_with_a_sixth_hand(self):
        for team in (0, 1):
            self.assertEqual(raised(FIVE.with_hand, team, "x"), (TooMany, {"what": "hands", "limit": 5}))
        self.assertEqual(FIVE.without(0).with_hand(0, "x"), FIVE)

    def test_with_hand_errors(self):
        for team in NO_TEAMS:
            for layout in (PAIR, FIVE):
                wrong = raised(layout.with_hand, team, "set")
                self.assertEqual(wrong[0], InvalidTeam, repr(team))
                self.assertIs(wrong[1]["value"], team)
        for deed in NO_NAMES + ["set", "w"]:
            for layout in (FIVE, FIVE.without(0)):
                wrong = raised(layout.with_hand, 1, deed)
                self.assertEqual(wrong[0], InvalidDeed, repr(deed))
                self.assertIs(wrong[1]["value"], deed)
        self.assertEqual(raised(FIVE.with_hand, 2, "w"), (InvalidTeam, {"value": 2}))

    def test_the_layout_stays(self):
        before = repr(FIVE)
        FIVE.without(0)
        FIVE.without(0).with_hand(1, "z")
        list(FIVE.orders())
        FIVE.how_many_orders()
        FIVE.behind([4, 0])
        FIVE.mark(4, [4, 0])
        FIVE.marks(1)
        FIVE.ends(0)
        (~FIVE).lesser()
        FIVE.lesser().is_within(~FIVE)
        FIVE.is_ahead_of(~FIVE)
        raised(FIVE.with_hand, 0, "x")
        self.assertEqual(repr(FIVE), before)


class Lesser(unittest.TestCase):
    def test_exchanged(self):
        self.assertEqual(parts(~FIVE), (KEPT, 0, ["x", "y"], ["x", "x", "z"]))
        self.assertEqual((~~FIVE, ~PAIR), (FIVE, PAIR))

    def test_lesser(self):
        self.assertEqual((FIVE.lesser(), (~FIVE).lesser()), (FIVE, FIVE))
        self.assertEqual((PAIR.lesser(), type(PAIR.lesser())), (PAIR, Layout))
        for first, second in ((["x"], ["x", "x"]), (["x", "y"], ["y"]), (["x", "x", "x"], ["x", "y"]),
                              (["x", "z"], ["y", "y"])):
            layout = Layout(KEPT, 1, first, second)
            self.assertEqual((layout.lesser(), (~layout).lesser()), (layout, layout))

    def test_by_the_places_not_by_the_names(self):
        thing = Thing(["y", "x"], [[(0, 0), (0, 0)]])
        layout = Layout(thing, 0, ["y"], ["x"])
        self.assertEqual((layout.lesser(), (~layout).lesser()), (layout, layout))
        self.assertTrue(layout.is_ahead_of(~layout))

    def test_all(self):
        for layout in some_layouts(4):
            places = [plain.places(layout.thing, layout.first), plain.places(layout.thing, layout.second)]
            expected = layout if places[0] <= places[1] else ~layout
            self.assertEqual(layout.lesser(), expected)


class Within(unittest.TestCase):
    def test_ordinary(self):
        small = Layout(KEPT, 0, ["x"], ["x", "z"])
        self.assertFalse(small.is_within(Layout(KEPT, 0, ["x", "x", "z"], ["y", "z"])))
        self.assertTrue(Layout(KEPT, 0, ["x"], ["x", "z"]).is_within(FIVE))
        self.assertTrue(small.is_within(~FIVE))
        self.assertFalse(FIVE.is_within(small))
        self.assertTrue(small.is_within(other=small))
        self.assertFalse(Layout(KEPT, 0, ["y"], ["y"]).is_within(FIVE))
        self.assertFalse(Layout(KEPT, 0, ["x", "x"], ["x", "x"]).is_within(FIVE))

    def test_more_often(self):
        once, twice = Layout(KEPT, 0, ["x"], ["y"]), Layout(KEPT, 0, ["x", "x"], ["y"])
        self.assertTrue(once.is_within(twice))
        self.assertFalse(twice.is_within(once))
        self.assertFalse(twice.is_within(Layout(KEPT, 0, ["x", "y"], ["x", "y"])))
        self.assertTrue(twice.is_within(Layout(KEPT, 0, ["y", "z"], ["x", "x"])))

    def test_of_another_thing_or_state(self):
        self.assertFalse(Layout(KEPT, 1, ["x"], ["x"]).is_within(FIVE))
        self.assertFalse(Layout(box(["x", "y", "z"]), 0, ["x"], ["x"]).is_within(FIVE))
        self.assertTrue(Layout(keep(["x", "y", "z"]), 0, ["x"], ["x"]).is_within(FIVE))

    def test_all_of_one_thing(self):
        thing = Thing(["a", "b"], [[(0, 0), (0, 1)], [(1, 0), (0, 1)]])
        found = [layout for number in (2, 3, 4) for layout in plain.layouts(thing, number)]
        found += [~layout for layout in found]
        for layout in found:
            for other in found:
                self.assertEqual(layout.is_within(other), plain.is_within(layout, other))

    def test_no_layout(self):
        for value in NO_INTEGERS + [0, 1, "set", switch(), Layout]:
            for action in (PAIR.is_within, PAIR.is_ahead_of):
                wrong = raised(action, value)
                self.assertEqual(wrong[0], InvalidLayout, repr(value))
                self.assertIs(wrong[1]["value"], value)


class OfTwo(unittest.TestCase):
    def test_ordinary(self):
        self.assertEqual(Layout.of_two(KEPT, 1, "z", "x"), Layout(KEPT, 1, ["z"], ["x"]))
        self.assertEqual(Layout.of_two(other="set", one="set", state=0, thing=switch()), PAIR)
        self.assertIsInstance(vars(Layout)["of_two"], staticmethod)

    def test_errors(self):
        for state in NO_STATES:
            self.assertEqual(raised(Layout.of_two, KEPT, state, 1, 2)[0], InvalidState, repr(state))
        for deed in NO_NAMES + ["w"]:
            wrong = raised(Layout.of_two, KEPT, 0, deed, "w")
            self.assertEqual(wrong[0], InvalidDeed, repr(deed))
            self.assertIs(wrong[1]["value"], deed)
            wrong = raised(Layout.of_two, KEPT, 0, "x", deed)
            self.assertEqual(wrong[0], InvalidDeed, repr(deed))
            self.assertIs(wrong[1]["value"], deed)


class Ahead(unittest.TestCase):
    def test_by_hands_then_state_then_teams(self):
        thing = Thing(["y", "x"], [[(0, 0), (0, 0)], [(1, 0), (0, 1)]])
        found = []
        for number in (2, 3, 4):
            for state in (0, 1):
                for many in range(1, number):
                    for first in combinations_with_replacement((0, 1), many):
                        for second in combinations_with_replacement((0, 1), number - many):
                            found.append((number, state, list(first), list(second)))
        layouts = [Layout(thing, state, [thing.deeds[place] for place in first],
                          [thing.deeds[place] for place in second]) for _, state, first, second in sorted(found)]
        for place, layout in enumerate(layouts):
            for other_place, other in enumerate(layouts):
                self.assertIs(layout.is_ahead_of(other), place < other_place)

    def test_by_name_and_of_equal_things(self):
        self.assertFalse(PAIR.is_ahead_of(other=PAIR))
        self.assertTrue(PAIR.is_ahead_of(Layout(switch(), 1, ["set"], ["set"])))

    def test_of_another_thing(self):
        other = Layout(switch().renamed({"set": "put"}), 0, ["put"], ["put"])
        wrong = raised(PAIR.is_ahead_of, other)
        self.assertEqual(wrong[0], OtherThing)
        self.assertIs(wrong[1]["value"], other)


class Equality(unittest.TestCase):
    def test_all_parts(self):
        self.assertEqual(PAIR, Layout(switch(), 0, ["set"], ["set"]))
        self.assertFalse(PAIR != Layout(switch(), 0, ["set"], ["set"]))
        others = [Layout(switch(), 1, ["set"], ["set"]), Layout(switch(), 0, ["set"] * 2, ["set"]),
                  Layout(switch(), 0, ["set"], ["set"] * 2), Layout(box(["set"]), 0, ["set"], ["set"])]
        for one in others:
            self.assertNotEqual(one, PAIR)
            for other in others:
                self.assertEqual(one == other, one is other)
        self.assertNotEqual(FIVE, ~FIVE)

    def test_other_values(self):
        for value in [None, 0, 2, [], (switch(), 0, ["set"], ["set"]), repr(PAIR), switch()]:
            self.assertFalse(PAIR == value)
            self.assertTrue(PAIR != value)

    def test_repr(self):
        self.assertEqual(repr(PAIR), "Layout(Thing(['set'], [[(0, 1)], [(1, 1)]]), 0, ['set'], ['set'])")
        self.assertEqual(repr(Layout(counter(1), 0, ["add"], ["add", "add"])),
                         "Layout(Thing(['add'], [[(0, 0)]]), 0, ['add'], ['add', 'add'])")
        for layout in (FIVE, ~FIVE):
            self.assertEqual(eval(repr(layout), {"Layout": Layout, "Thing": Thing}), layout)


if __name__ == "__main__":
    unittest.main()
