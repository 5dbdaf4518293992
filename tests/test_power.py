"""Power: layouts for a number of hands, the most, bars, and the facts that tie them together."""

import inspect
import unittest
from itertools import combinations

from settlesfirst.errors import InvalidDeed, InvalidNumber, InvalidState
from settlesfirst.layouts import Layout
from settlesfirst.makers import box, counter, keep, ladder, swap
from settlesfirst.power import (
    are_bars, bars, endless, first_layout, how_many, is_endless, least_bars, least_deeds, most, power, serving,
    telling_layouts,
)
from settlesfirst.telling import blot, is_blot, tells
from settlesfirst.things import Thing, is_fold
from tests import plain
from tests.values import NO_INTEGERS, NO_NAMES, Equal, raised, some_things, switch

KEPT = keep(["x", "y"])
# At state 0 two hands of each deed do not tell: without one of the second deed they do, without one of the first not.
UNEVEN = Thing(["x", "y"], [[(0, 4), (0, 1)], [(0, 1), (0, 0)], [(0, 1), (0, 3)], [(0, 0), (0, 4)], [(0, 4), (0, 4)]])
WELL_KNOWN = [switch(), KEPT, keep(["x"]), box(["x", "y"]), swap(["x", "y"]), counter(1), counter(3), ladder(1),
              ladder(2), ladder(3), UNEVEN, UNEVEN.renamed({"x": "y", "y": "x"}), keep(["x", "y", "z"])]
NO_NUMBERS = NO_INTEGERS + [1, 5, 0, -2, 10 ** 29]
BY_NUMBER = [lambda thing, number: list(telling_layouts(thing, number)), how_many, first_layout, serving, least_deeds,
             least_bars, bars, lambda thing, number: are_bars(thing, number, [])]
NEXT_TO = [(switch(), KEPT), (switch(), box(["x", "y"])), (counter(3), box(["x"])),
           (ladder(2), switch()), (swap(["x"]), counter(2)), (box(["x"]), box(["y"]))]


def some():
    return some_things(25, 31) + WELL_KNOWN


class Layouts(unittest.TestCase):
    def test_all_in_their_sequence(self):
        for thing in some():
            for number in (2, 3, 4):
                expected = [layout for layout in plain.layouts(thing, number) if plain.tells(layout)]
                self.assertEqual(list(telling_layouts(thing, number)), expected)
                self.assertEqual(how_many(thing, number), len(expected))
                self.assertEqual(first_layout(thing, number), expected[0] if expected else None)
                self.assertEqual(serving(thing, number), sorted({layout.state for layout in expected}))

    def test_teams_of_unlike_sizes_are_sorted_as_lists(self):
        thing = keep(["x", "y", "z"])
        teams = [(layout.first, layout.second) for layout in telling_layouts(thing, 3)]
        self.assertEqual(teams, [
            (["x"], ["y", "y"]), (["x"], ["y", "z"]), (["x"], ["z", "z"]), (["x", "x"], ["y"]), (["x", "x"], ["z"]),
            (["x", "y"], ["z"]), (["x", "z"], ["y"]), (["y"], ["z", "z"]), (["y", "y"], ["z"]),
        ])
        self.assertEqual(how_many(thing, 3), 9)

    def test_they_are_made_when_they_are_asked_for(self):
        self.assertTrue(inspect.isgeneratorfunction(telling_layouts))
        one, other = telling_layouts(KEPT, 3), telling_layouts(number=3, thing=KEPT)
        first = next(one)
        self.assertEqual((next(other), next(other)), (first, next(one)))
        self.assertEqual((list(one), list(other)), ([], []))

    def test_a_thing_made_of_others_begins_soon(self):
        thing = keep(["a", "b", "c", "d"]) | keep(["e", "f", "g", "h"]) | counter(8) | ladder(4)
        self.assertEqual(thing.states, 25 * 8 * 9)
        self.assertEqual(first_layout(thing, 4), Layout(thing, 0, ["a"], ["b", "b", "b"]))
        self.assertEqual(power(thing), 4)

    def test_by_name(self):
        self.assertEqual((how_many(number=3, thing=KEPT), serving(number=2, thing=KEPT)), (2, [0]))
        self.assertEqual(first_layout(number=2, thing=switch()), Layout(switch(), 0, ["set"], ["set"]))
        self.assertEqual(least_deeds(number=2, thing=KEPT), [["x", "y"]])
        self.assertEqual((power(thing=KEPT), endless(thing=KEPT)[0], is_endless(thing=KEPT)), (4, (0, "x", "y"), True))
        self.assertEqual(most(other="set", one="set", state=0, thing=switch()), 1)
        self.assertEqual(len(least_bars(number=3, thing=switch())), 2)
        self.assertTrue(are_bars(value=bars(number=3, thing=switch()), number=3, thing=switch()))

    def test_no_number(self):
        for number in NO_NUMBERS:
            for action in BY_NUMBER:
                wrong = raised(action, switch(), number)
                self.assertEqual(wrong[0], InvalidNumber, repr(number))
                self.assertIs(wrong[1]["value"], number)

    def test_each_number_that_is_one(self):
        for number in (2, 3, 4):
            for action in BY_NUMBER:
                self.assertIsNone(raised(action, switch(), number))


class Power(unittest.TestCase):
    def test_ordinary(self):
        things = [switch(), KEPT, ladder(3), box(["x", "y"]), swap(["x", "y"]), counter(3), counter(1), keep(["x"])]
        self.assertEqual([power(thing) for thing in things], [2, 4, 3, 1, 2, 2, 1, 1])
        self.assertEqual([power(ladder(size)) for size in (1, 2, 3, 4)], [2, 2, 3, 4])

    def test_all(self):
        for thing in some():
            expected = max([number for number in (2, 3, 4)
                            if any(plain.tells(layout) for layout in plain.layouts(thing, number))], default=1)
            self.assertEqual(power(thing), expected)
            for number in (2, 3, 4):
                self.assertEqual(first_layout(thing, number) is not None, number <= expected)

    def test_a_box_has_none(self):
        for names in (["x"], ["x", "y", "z"], ["a", "b", "c", "d"]):
            self.assertEqual(power(box(names)), 1)

    def test_beside_each_other(self):
        for one, other in NEXT_TO:
            self.assertEqual(power(one | other), max(power(one), power(other)))
            self.assertEqual(power(other | one), max(power(one), power(other)))
            for layout in telling_layouts(one | other, 2):
                deeds = set(layout.first + layout.second)
                self.assertTrue(deeds <= set(one.deeds) or deeds <= set(other.deeds))

    def test_a_part_has_at_most_the_power_of_the_whole(self):
        for thing in some():
            for many in range(1, len(thing.deeds) + 1):
                for deeds in combinations(thing.deeds, many):
                    for state in range(thing.states):
                        self.assertLessEqual(power(thing.part(state, deeds)), power(thing))

    def test_a_fold_has_at_least_that_of_the_other_one(self):
        answers = {0: 0, 1: 1, 2: 0, 3: 1}
        self.assertTrue(is_fold(counter(4), counter(2), [0, 1, 0, 1], {"add": "add"}, answers))
        self.assertGreaterEqual(power(counter(4)), power(counter(2)))


class LeastDeeds(unittest.TestCase):
    def test_ordinary(self):
        self.assertEqual(least_deeds(keep(["x", "y", "z"]), 4), [["x", "y"], ["x", "z"], ["y", "z"]])
        self.assertEqual((least_deeds(switch(), 2), least_deeds(switch(), 3)), ([["set"]], []))

    def test_what_is_enough_with_fewer_is_left_out(self):
        thing = switch() | keep(["x", "y", "z"])
        self.assertEqual(least_deeds(thing, 2), [["set"], ["x", "y"], ["x", "z"], ["y", "z"]])
        self.assertEqual(least_deeds(keep(["y", "z", "x"]) | switch(), 2),
                         [["y", "z"], ["y", "x"], ["z", "x"], ["set"]])

    def test_all(self):
        for thing in some_things(40, 12, most_deeds=4) + WELL_KNOWN:
            places = list(range(len(thing.deeds)))
            for number in (2, 3):
                telling = [set(plain.places(thing, layout.first + layout.second))
                           for layout in telling_layouts(thing, number)]

                def are_enough(chosen):
                    return any(used <= set(chosen) for used in telling)

                expected = [list(chosen) for many in range(1, len(places) + 1) for chosen in combinations(places, many)
                            if are_enough(chosen)
                            and not any(are_enough(set(chosen) - {place}) for place in chosen)]
                self.assertEqual(least_deeds(thing, number),
                                 [[thing.deeds[place] for place in chosen] for chosen in sorted(expected)])


class Most(unittest.TestCase):
    def test_ordinary(self):
        self.assertEqual([most(switch(), 0, "set", "set"), most(switch(), 1, "set", "set")], [1, 0])
        self.assertEqual([most(KEPT, 0, "x", "y"), most(KEPT, 0, "x", "x"), most(KEPT, 1, "x", "y")], [None, 0, 0])
        self.assertEqual([most(ladder(size), 0, "left", "right") for size in (1, 2, 3, 4)], [0, 1, 2, 3])
        self.assertEqual([type(most(switch(), state, "set", "set")) for state in (0, 1)], [int, int])

    def test_all(self):
        found = {}
        for thing in some_things(60, 77) + WELL_KNOWN + [ladder(4)]:
            for state in range(thing.states):
                for one in thing.deeds:
                    for other in thing.deeds:
                        expected = plain.most(thing, state, one, other)
                        self.assertEqual(most(thing, state, one, other), expected, (thing, state, one, other))
                        found[expected] = found.get(expected, 0) + 1
        self.assertGreater(found[None], 3)
        self.assertTrue({0, 1, 2, 3} <= set(found))

    def test_it_says_which_layouts_tell(self):
        for thing in some():
            for state in range(thing.states):
                for one in thing.deeds:
                    for other in thing.deeds:
                        found = most(thing, state, one, other)
                        for many in (1, 2, 3, 4):
                            expected = found is None or many <= found
                            self.assertEqual(tells(Layout(thing, state, [one], [other] * many)), expected)

    def test_of_a_thing_made_of_others(self):
        thing = ladder(4) | box(["x"])
        self.assertEqual([most(thing, 0, "left", "right"), most(thing, 1, "right", "left"),
                          most(thing, 0, "left", "x")], [3, 3, 0])

    def test_more_than_four(self):
        """The one, when it begins, leads to where the seventh of the others leads."""
        for last in range(2, 8):
            rows = [[(0, last), (0, 1)]] + [[(1, state), (0, state + 1)] for state in range(1, last)]
            thing = Thing(["one", "other"], rows + [[(0, last), (0, last)]])
            self.assertEqual(most(thing, 0, "one", "other"), last - 1)
            self.assertEqual(plain.most(thing, 0, "one", "other"), last - 1)

    def test_errors(self):
        for state in NO_INTEGERS + [-1, 3, 10 ** 29]:
            wrong = raised(most, KEPT, state, "z", "z")
            self.assertEqual(wrong[0], InvalidState, repr(state))
            self.assertIs(wrong[1]["value"], state)
        for deed in NO_NAMES + ["z"]:
            wrong = raised(most, KEPT, 0, deed, "w")
            self.assertEqual(wrong[0], InvalidDeed, repr(deed))
            self.assertIs(wrong[1]["value"], deed)
            wrong = raised(most, KEPT, 2, "x", deed)
            self.assertEqual(wrong[0], InvalidDeed, repr(deed))
            self.assertIs(wrong[1]["value"], deed)


class Endless(unittest.TestCase):
    def test_ordinary(self):
        self.assertEqual((endless(KEPT), is_endless(KEPT)), ([(0, "x", "y"), (0, "y", "x")], True))
        self.assertEqual((endless(switch()), is_endless(switch())), ([], False))
        self.assertEqual((endless(ladder(4)), is_endless(ladder(4))), ([], False))

    def test_by_the_places(self):
        self.assertEqual(endless(keep(["z", "y", "x"])), [(0, "z", "y"), (0, "z", "x"), (0, "y", "z"), (0, "y", "x"),
                                                          (0, "x", "z"), (0, "x", "y")])

    def test_all(self):
        for thing in some_things(40, 55) + WELL_KNOWN:
            expected = [(state, one, other) for state in range(thing.states) for one in thing.deeds
                        for other in thing.deeds if plain.most(thing, state, one, other) is None]
            self.assertEqual(endless(thing), expected)
            self.assertIs(is_endless(thing), expected != [])
            if expected:
                self.assertEqual(power(thing), 4)

    def test_of_a_thing_made_of_others(self):
        thing = counter(4) | KEPT
        self.assertEqual(endless(thing), [(state, one, other) for state in (0, 3, 6, 9)
                                          for one, other in (("x", "y"), ("y", "x"))])
        self.assertTrue(is_endless(thing))


class Bars(unittest.TestCase):
    def test_a_bar_without_any_one_hand(self):
        layout = Layout(UNEVEN, 0, ["x", "x"], ["y", "y"])
        self.assertEqual([tells(layout), tells(layout.without(3)), tells(layout.without(0))], [False, True, False])
        mirrored = Thing(["y", "x"], [[row[1], row[0]] for row in UNEVEN.rows()])
        for thing in (UNEVEN, mirrored):
            self.assertNotIn(Layout(thing, 0, ["x", "x"], ["y", "y"]).lesser(), least_bars(thing, 4))
            self.assertEqual(least_bars(thing, 4), plain.least_bars(thing, 4))

    def test_least_bars(self):
        self.assertEqual(least_bars(switch(), 2), [Layout(switch(), 1, ["set"], ["set"])])
        self.assertEqual(least_bars(switch(), 4), [Layout(switch(), 1, ["set"], ["set"]),
                                                   Layout(switch(), 0, ["set"], ["set", "set"])])
        for thing in some():
            for number in (2, 3, 4):
                self.assertEqual(least_bars(thing, number), plain.least_bars(thing, number))

    def test_they_are_sorted(self):
        for thing in some():
            found = least_bars(thing, 4)
            for layout, later in zip(found, found[1:]):
                self.assertTrue(layout.is_ahead_of(later))

    def test_told_or_barred(self):
        for thing in some():
            for number in (2, 3, 4):
                found = bars(thing, number)
                if number <= power(thing):
                    self.assertIsNone(found)
                    continue
                self.assertIs(type(found), list)
                for layout, shown in found:
                    self.assertIsInstance(layout, Layout)
                    self.assertLessEqual(layout.hands, number)
                    self.assertIs(is_blot(layout, shown), True)
                self.assertEqual([type(entry) for entry in found], [tuple] * len(found))
                self.assertTrue(plain.are_bars(thing, number, found))
                self.assertIs(are_bars(thing, number, found), True)

    def test_bars_can_be_changed(self):
        found = bars(switch(), 3)
        before = repr(found)
        found[0][1][1].append(7)
        found.clear()
        least_bars(switch(), 3).clear()
        self.assertEqual(repr(bars(switch(), 3)), before)

    def test_each_one_is_needed(self):
        for thing in some():
            for number in (2, 3, 4):
                found = bars(thing, number) or []
                for place in range(len(found)):
                    fewer = found[:place] + found[place + 1:]
                    self.assertIs(are_bars(thing, number, fewer), plain.are_bars(thing, number, fewer))

    def test_in_another_sequence_and_twice(self):
        for thing in (switch(), box(["x", "y"]), ladder(3)):
            found = bars(thing, 4 if power(thing) > 2 else 3)
            number = 4 if power(thing) > 2 else 3
            self.assertIs(are_bars(thing, number, found[::-1]), True)
            self.assertIs(are_bars(thing, number, found + found[:1]), True)
            self.assertIs(are_bars(thing, number, tuple(found)), True)
            self.assertIs(are_bars(thing, number, found + [(~found[0][0], blot(~found[0][0]))]), True)

    def test_exchanged(self):
        for thing in (switch(), box(["x", "y"]), ladder(2)):
            found = [(~layout, blot(~layout)) for layout, _ in bars(thing, 3)]
            self.assertIs(are_bars(thing, 3, found), True)

    def test_greater_ones(self):
        thing = switch()
        greater = [Layout(thing, 0, ["set"], ["set", "set"]), Layout(thing, 1, ["set"], ["set", "set"])]
        found = [(layout, blot(layout)) for layout in greater]
        self.assertIs(are_bars(thing, 3, found), True)
        self.assertIs(are_bars(thing, 4, found), True)
        self.assertIs(are_bars(thing, 2, found), False)
        four = [Layout(thing, state, ["set"] * many, ["set"] * (4 - many)) for state in (0, 1) for many in (1, 2, 3)]
        found = [(layout, blot(layout)) for layout in four]
        self.assertIs(are_bars(thing, 4, found), True)
        self.assertIs(are_bars(thing, 4, found[1:]), True)
        self.assertIs(are_bars(thing, 4, found[:1] + found[2:]), False)
        self.assertIs(are_bars(thing, 3, found), False)

    def test_all_of_several_bars(self):
        thing = Thing(["a", "b"], [[(0, 1), (0, 1)], [(0, 0), (0, 1)]])
        every = [layout for number in (2, 3, 4) for layout in plain.layouts(thing, number) if not plain.tells(layout)]
        entries = [(layout, blot(layout)) for layout in every]
        for step in range(1, 12):
            for begin in range(step):
                value = entries[begin::step]
                for number in (2, 3, 4):
                    told = [entry for entry in value if entry[0].hands <= number]
                    self.assertIs(are_bars(thing, number, told), plain.are_bars(thing, number, told))
                    self.assertIs(are_bars(thing, number, value), plain.are_bars(thing, number, value)
                                  and len(told) == len(value))

    def test_no_bars(self):
        found = bars(switch(), 3)
        (layout, shown), rest = found[0], found[1:]
        five = Layout(switch(), 1, ["set"] * 2, ["set"] * 3)
        other = Layout(box(["set"]), 1, ["set"], ["set"])
        telling = Layout(switch(), 0, ["set"], ["set"])
        entries = [
            [layout, shown], (layout,), (layout, shown, 0), (layout, None), (layout, list(shown)), (shown, layout),
            (layout, (True, shown[1], shown[2])), (layout, (shown[0], [], shown[2])), (five, blot(five)),
            (other, blot(other)), (telling, (0, [0], [1, 0])), (telling, None), layout, shown, None, 0, "", (), [],
            {layout.state: shown}, (Equal(), Equal()), Equal(), (switch(), shown),
        ]
        self.assertIs(are_bars(switch(), 3, [(layout, shown)] + rest), True)
        for entry in entries:
            self.assertIs(are_bars(switch(), 3, [(layout, shown)] + rest + [entry]), False, repr(entry))
            self.assertIs(are_bars(switch(), 3, [entry] + rest), False, repr(entry))

    def test_no_list(self):
        for value in [None, 0, True, "", "ab", {}, {1}, [], (), Equal(), object(), switch(), iter(bars(switch(), 3)),
                      {0: bars(switch(), 3)[0]}]:
            self.assertIs(are_bars(switch(), 3, value), False, repr(value))

    def test_none_where_a_layout_tells(self):
        for number in (2, 3, 4):
            self.assertIsNone(bars(KEPT, number))
            every = [(layout, blot(layout)) for layout in least_bars(KEPT, number)]
            self.assertIs(are_bars(KEPT, number, every), False)

    def test_of_a_thing_made_of_others(self):
        thing = swap(["a", "b", "c", "d"]) | counter(8) | ladder(2)
        self.assertEqual((thing.states, power(thing)), (200, 2))
        found = bars(thing, 3)
        self.assertIs(are_bars(thing, 3, found), True)
        self.assertIs(are_bars(thing, 3, found[:-1]), False)
        self.assertIs(are_bars(thing, 2, found), False)


if __name__ == "__main__":
    unittest.main()
