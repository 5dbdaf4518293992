"""Programs that are built of layouts and things, and made out of other programs."""

import unittest
from itertools import permutations

from settlesfirst.building import exchanged, is_made_of, program_of, settle, settle_by, steps_of, trimmed
from settlesfirst.errors import (
    InvalidHand, InvalidNumber, InvalidOrder, InvalidThings, NotRight, NotTelling, TooMany,
)
from settlesfirst.layouts import Layout
from settlesfirst.makers import box, counter, is_box, keep, ladder, swap
from settlesfirst.places import critical, layout_at
from settlesfirst.power import first_layout, power, telling_layouts
from settlesfirst.programs import Program
from settlesfirst.telling import tells
from settlesfirst.things import Thing
from settlesfirst.weavings import all_names, behind, how_many_full, is_right, most_steps
from tests import weaver
from tests.values import NO_INTEGERS, NO_LISTS, Equal, raised, some_things, switch

SET = ("do", 0, "set", {0: 1, 1: 2})
RACE = Program([(switch(), 0)], [[SET, ("end", 0), ("end", 1)], [SET, ("end", 1), ("end", 0)]])
WRONG = Program([(switch(), 0)], [[SET, ("end", 0), ("end", 1)], [SET, ("end", 1), ("end", 1)]])
PAIR = Layout(switch(), 0, ["set"], ["set"])
KEPT = keep(["x", "y"])
NO_NUMBERS = NO_INTEGERS + [-1, 0, 1, 5, 10 ** 29]
# A thing that answers otherwise at each state from which the hands of a pair may do their deeds.
TALKER = Thing(["x", "y"], [[(0, 1), (9, 2)], [(3, 3), (4, 4)], [(5, 5), (6, 6)]] + [
    [(7, at), (8, at)] for at in range(3, 7)])


class Case(unittest.TestCase):
    def check(self, program, hands, things):
        """A right program for so many hands that is made of these things, and could be passed by a caller."""
        self.assertEqual((type(program), program.hands), (Program, hands))
        self.assertTrue(is_right(program))
        self.assertTrue(is_made_of(program, things))
        for thing, _ in program.things:
            self.assertTrue(thing in things or is_box(thing))
            if thing not in things:
                self.assertEqual(Thing(thing.deeds, thing.rows()), thing)
        scripts = [program.script(hand) for hand in range(hands)]
        self.assertEqual(Program(program.things, scripts), program)
        self.assertEqual(all_names(program), list(range(hands)))


class Built(Case):
    def test_ordinary(self):
        self.check(program_of(PAIR), 2, [switch()])
        self.check(program_of(layout=PAIR), 2, [switch()])
        self.check(program_of(Layout(KEPT, 0, ["x"], ["y", "y"])), 3, [KEPT])

    def test_of_two_three_and_four_hands(self):
        met = set()
        for thing in some_things(40, 5) + [KEPT, swap(["x", "y"]), counter(3), ladder(3), ladder(4), TALKER,
                                           keep(["x", "y", "z"])]:
            for number in range(2, power(thing) + 1):
                layouts = list(telling_layouts(thing, number))
                some = layouts[:2] + [~layout for layout in layouts[-1:]]
                for layout in some:
                    self.check(program_of(layout), number, [thing])
                    met.add((len(layout.first), len(layout.second)))
        self.assertEqual(met, {(1, 1), (1, 2), (2, 1), (1, 3), (2, 2), (3, 1)})

    def test_marks_of_which_answer_and_state_both_count(self):
        # Neither the answers nor the states alone tell.
        found = 0
        for thing in some_things(300, 41, most_deeds=2, most_states=4):
            for layout in telling_layouts(thing, 2):
                answers = all(len({layout.mark(hand, order)[0] for order in layout.orders() if hand in order}) == 1
                              for hand in (0, 1))
                if not answers and set(layout.ends(0)) & set(layout.ends(1)):
                    found += 1
                    self.check(program_of(layout), 2, [thing])
        self.assertGreater(found, 20)

    def test_by_the_plain_words(self):
        for layout in [PAIR, Layout(KEPT, 0, ["x"], ["y"]), Layout(TALKER, 0, ["x"], ["y"])]:
            self.assertTrue(weaver.is_right(program_of(layout)))

    def test_of_things_that_the_package_made(self):
        thing = keep(["a", "b", "c", "d"]) | keep(["e", "f", "g", "h"]) | counter(8) | ladder(4)
        self.check(program_of(Layout(thing, 0, ["a"], ["b", "b", "c"])), 4, [thing])
        self.check(settle(thing, 3), 3, [thing])

    def test_five_hands(self):
        for first, second in ((["x"], ["y"] * 4), (["x"] * 3, ["y"] * 2), (["x"], ["x"] * 4)):
            layout = Layout(KEPT, 0, first, second)
            self.assertEqual(raised(program_of, layout), (TooMany, {"what": "hands", "limit": 4}))

    def test_not_telling(self):
        for layout in (PAIR.with_hand(0, "set"), Layout(switch(), 1, ["set"], ["set"]),
                       Layout(KEPT, 0, ["x"], ["x", "y"]), Layout(KEPT, 0, ["x", "x"], ["x", "y"])):
            self.assertEqual(raised(program_of, layout), (NotTelling, {}))

    def test_read_off_again(self):
        for number in (2, 3, 4):
            program = settle(KEPT, number)
            _, layout, _ = layout_at(program, critical(program))
            self.assertEqual((layout.hands, tells(layout)), (number, True))
            self.check(program_of(layout), number, [KEPT])


class Settle(Case):
    def test_each_number(self):
        for thing in [switch(), KEPT, box(["x"]), swap(["x", "y"]), ladder(2), ladder(3), counter(1)] + some_things(20, 9):
            for number in (2, 3, 4):
                program = settle(thing, number)
                if power(thing) < number:
                    self.assertIsNone(program)
                else:
                    self.check(program, number, [thing])

    def test_by_name(self):
        self.check(settle(number=3, thing=KEPT), 3, [KEPT])
        self.check(settle_by(number=3, things=(switch(), KEPT)), 3, [switch(), KEPT])

    def test_of_several_things(self):
        things = [box(["x"]), switch(), ladder(3), swap(["x", "y"])]
        for number in (2, 3):
            self.check(settle_by(things, number), number, things)
        self.assertIsNone(settle_by(things, 4))
        self.check(settle_by(things + [KEPT], 4), 4, things + [KEPT])
        self.check(settle_by([KEPT, KEPT], 4), 4, [KEPT])

    def test_together_they_settle_no_more_than_one_of_them(self):
        for one, other in zip(some_things(12, 3), some_things(12, 4)):
            for number in (2, 3, 4):
                expected = max(power(one), power(other)) >= number
                self.assertEqual(settle_by([one, other], number) is not None, expected)

    def test_boxes_alone(self):
        for things in ([box(["x"])], [box(["x"]), box(["x", "y"]), box(["a", "b", "c", "d"])]):
            for number in (2, 3, 4):
                self.assertIsNone(settle_by(things, number))

    def test_no_number(self):
        for number in NO_NUMBERS:
            for action, first in ((settle, KEPT), (settle_by, [KEPT])):
                wrong = raised(action, first, number)
                self.assertEqual(wrong[0], InvalidNumber, repr(number))
                self.assertIs(wrong[1]["value"], number)

    def test_no_things(self):
        for action in (lambda things: settle_by(things, 2), lambda things: settle_by(things, True),
                       lambda things: is_made_of(RACE, things)):
            for things in NO_LISTS + [[], ()]:
                self.assertEqual(raised(action, things), (InvalidThings, {"position": None}), repr(things))
            for thing in [None, True, 0, "", [], (KEPT, 0), Thing, Equal(), RACE, PAIR, [KEPT]]:
                self.assertEqual(raised(action, [thing]), (InvalidThings, {"position": 0}), repr(thing))
                self.assertEqual(raised(action, (KEPT, box(["x"]), thing, 7)), (InvalidThings, {"position": 2}))

    def test_what_was_passed_stays(self):
        things = [switch(), KEPT]
        program = settle_by(things, 3)
        things.clear()
        self.check(program, 3, [KEPT])
        self.check(settle_by([KEPT], 3), 3, [KEPT])


class MadeOf(unittest.TestCase):
    def test_ordinary(self):
        self.assertIs(is_made_of(RACE, [switch()]), True)
        self.assertIs(is_made_of(RACE, (KEPT, switch())), True)
        self.assertIs(is_made_of(things=[KEPT], program=RACE), False)
        self.assertIs(is_made_of(RACE, [switch().renamed({"set": "put"})]), False)

    def test_boxes(self):
        strange = Thing(["x", "y"], [[(0, 1), (0, 1)], [(0, 1), (0, 1)]])
        things = [(box(["a", "b"]), 2), (switch(), 0), (strange, 0)]
        program = Program(things, [[("look", 0, {0: 1}), ("end", 0)]] * 2)
        self.assertEqual((is_made_of(program, [switch()]), is_made_of(program, [strange])), (True, False))
        self.assertTrue(is_made_of(Program(things[:1], [program.script(0)] * 2), [KEPT]))

    def test_the_state_does_not_matter(self):
        self.assertTrue(is_made_of(Program([(switch(), 1)], [RACE.script(0)] * 2), [switch()]))


def plainly_trimmed(program):
    """What the words of the document say."""
    nodes = [{0} for _ in range(program.hands)]
    taken = set()
    for _, walk in weaver.all_weavings(program):
        for hand, node in enumerate(walk.nodes):
            nodes[hand].add(node)
        taken.update(walk.taken)
    scripts = []
    for hand in range(program.hands):
        script = []
        kept = sorted(nodes[hand])
        for number in kept:
            node = program.script(hand)[number]
            if node[0] != "end":
                branches = {key: kept.index(after) for key, after in node[-1].items() if (hand, number, key) in taken}
                node = node[:-1] + (branches,)
            script.append(node)
        scripts.append(script)
    return Program(program.things, scripts)


class Trimmed(unittest.TestCase):
    def test_ordinary(self):
        self.assertEqual(trimmed(RACE), RACE)
        self.assertEqual(trimmed(program=RACE), RACE)

    def test_nodes_and_branches(self):
        one = [("do", 0, "set", {0: 2, 1: 4, 7: 3}), ("look", 0, {0: 2}), ("end", 0), ("end", 0), ("end", 1), ("end", 1)]
        other = [("do", 0, "set", {0: 1, 1: 3}), ("look", 0, {0: 2, 1: 4}), ("end", 0), ("end", 0), ("end", 1)]
        program = Program([(switch(), 0), (KEPT, 1)], [one, other])
        self.assertTrue(is_right(program))
        expected = [[("do", 0, "set", {0: 1, 1: 2}), ("end", 0), ("end", 1)],
                    [("do", 0, "set", {0: 1, 1: 2}), ("look", 0, {1: 3}), ("end", 0), ("end", 1)]]
        found = trimmed(program)
        self.assertEqual([found.script(0), found.script(1)], expected)
        self.assertEqual(found.things, program.things)

    def test_all(self):
        for program in weaver.some_right_programs(20, 13) + [settle(thing, 2) for thing in (KEPT, TALKER, ladder(3))]:
            found = trimmed(program)
            self.assertEqual(found, plainly_trimmed(program))
            self.assertTrue(is_right(found))
            self.assertEqual((how_many_full(found), trimmed(found)), (how_many_full(program), found))

    def test_what_is_built(self):
        for number in (2, 3, 4):
            found = trimmed(settle(KEPT, number))
            self.assertTrue(is_right(found))
            self.assertEqual((trimmed(found), most_steps(found)), (found, most_steps(settle(KEPT, number))))

    def test_not_right(self):
        self.assertEqual(raised(trimmed, WRONG), (NotRight, {}))
        for program in weaver.some_programs(30, 15):
            self.assertEqual(raised(trimmed, program) == (NotRight, {}), not weaver.is_right(program))


class Exchanged(unittest.TestCase):
    def test_ordinary(self):
        self.assertEqual(exchanged(RACE, [1, 0]), RACE)
        self.assertEqual(exchanged(order=(0, 1), program=RACE), RACE)
        scripts = [[("look", 0, {0: hand + 1})] + [("end", (hand + 1) * each % 3) for each in (1, 2, 3)] for hand in range(3)]
        program = Program([(switch(), 0)], scripts)
        found = exchanged(program, [2, 0, 1])
        # Hand 2 becomes 0, hand 0 becomes 1, hand 1 becomes 2.
        self.assertEqual([found.script(hand) for hand in range(3)], [
            [("look", 0, {0: 3}), ("end", 1), ("end", 1), ("end", 1)],
            [("look", 0, {0: 1}), ("end", 2), ("end", 0), ("end", 1)],
            [("look", 0, {0: 2}), ("end", 0), ("end", 2), ("end", 1)]])

    def test_each_list_of_all_hands(self):
        for number in (2, 3, 4):
            program = settle(KEPT, number)
            for order in permutations(range(number)):
                found = exchanged(program, list(order))
                self.assertEqual([[node[:-1] for node in found.script(hand)] for hand in range(number)],
                                 [[node[:-1] for node in program.script(order[hand])] for hand in range(number)])
                for hand in range(number):
                    named = [node[1] for node in found.script(hand) if node[0] == "end"]
                    elder = [node[1] for node in program.script(order[hand]) if node[0] == "end"]
                    self.assertEqual([order[each] for each in named], elder)
                back = [order.index(hand) for hand in range(number)]
                self.assertEqual(exchanged(found, back), program)
                if number < 4 or order[0] == 3:
                    self.assertTrue(is_right(found))

    def test_of_programs_that_are_not_right(self):
        for program in weaver.some_programs(20, 2):
            found = exchanged(program, [1, 0])
            for weaving, walk in weaver.all_weavings(program):
                nodes, states = behind(found, [1 - hand for hand in weaving])
                self.assertEqual((nodes[::-1], states), (tuple(walk.nodes), tuple(walk.states)))

    def test_no_list_of_all_hands(self):
        for order in NO_LISTS + [[], (), [0], [0, 1, 2], (1,), [True]]:
            self.assertEqual(raised(exchanged, RACE, order), (InvalidOrder, {"position": None}), repr(order))
        for hand in NO_INTEGERS + [-1, 2, 0, 10 ** 29]:
            self.assertEqual(raised(exchanged, RACE, [0, hand]), (InvalidOrder, {"position": 1}), repr(hand))
        for hand in NO_INTEGERS + [-1, 2, 10 ** 29]:
            self.assertEqual(raised(exchanged, RACE, (hand, hand)), (InvalidOrder, {"position": 0}), repr(hand))

    def test_what_was_passed_stays(self):
        order = [1, 0]
        before = [RACE.script(0), RACE.script(1)]
        exchanged(RACE, order)
        self.assertEqual((order, [RACE.script(0), RACE.script(1)]), ([1, 0], before))


class Steps(unittest.TestCase):
    def test_ordinary(self):
        self.assertEqual((steps_of(RACE, 0), steps_of(hand=1, program=RACE)), (1, 1))
        script = [("look", 0, {0: 1, 1: 3}), ("do", 0, "set", {0: 2, 1: 2}), ("look", 0, {1: 3}), ("end", 1)]
        program = Program([(switch(), 0)], [RACE.script(0), script])
        self.assertEqual((steps_of(program, 0), steps_of(program, 1)), (1, 3))
        self.assertEqual(steps_of(Program([(switch(), 1)], [RACE.script(0), script]), 1), 1)

    def test_all(self):
        for program in weaver.some_programs(60, 6) + weaver.some_programs(10, 7, hands=3):
            for hand in range(program.hands):
                expected = max(weaving.count(hand) for weaving, _ in weaver.all_weavings(program))
                self.assertEqual(steps_of(program, hand), expected)

    def test_no_hand(self):
        for hand in NO_INTEGERS + [-1, 2, 10 ** 29]:
            wrong = raised(steps_of, RACE, hand)
            self.assertEqual(wrong[0], InvalidHand, repr(hand))
            self.assertIs(wrong[1]["value"], hand)


if __name__ == "__main__":
    unittest.main()
