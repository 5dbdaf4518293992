"""The examples of the interface."""

import unittest

from settlesfirst.building import exchanged, is_made_of, program_of, settle, trimmed
from settlesfirst.claims import is_paper, is_true
from settlesfirst.desk import Desk, tried
from settlesfirst.falls import (
    endless_with_falls, is_right_with_falls, power_with_falls, records, settle_with_falls, shortest_with_falls,
)
from settlesfirst.layouts import Layout
from settlesfirst.makers import box, counter, is_box, keep, ladder, swap
from settlesfirst.places import is_critical, layout_at, longest_open, next_names, outcomes
from settlesfirst.power import endless, how_many, least_deeds, most, power, serving
from settlesfirst.programs import Program
from settlesfirst.telling import answers_tell, blotted, is_blot, is_unseen, shortest_blot, states_tell, tells, verdict
from settlesfirst.texts import read_layout, text_of
from settlesfirst.things import Thing, is_fold
from settlesfirst.weavings import (
    behind, full_at, how_many_full, is_right, most_steps, named, quarrel, shortest_quarrel,
)
from tests.values import switch

RACE_SCRIPTS = [
    [("do", 0, "set", {0: 1, 1: 2}), ("end", 0), ("end", 1)],
    [("do", 0, "set", {0: 1, 1: 2}), ("end", 1), ("end", 0)],
]


def race():
    return Program([(switch(), 0)], RACE_SCRIPTS)


class StageOne(unittest.TestCase):
    def test_things(self):
        switch = Thing(["set"], [[(0, 1)], [(1, 1)]])
        told = [switch(0, "set"), switch.run(0, ["set", "set"]), box(["x"]).rows(), keep(["x", "y"]).rows()[1],
                (switch | box(["x"])).states]
        self.assertEqual(told, [(0, 1), ([0, 1], 1), [[(0, 1)], [(0, 1)]], [(0, 1), (0, 1)], 4])

    def test_folds(self):
        switch = Thing(["set"], [[(0, 1)], [(1, 1)]])
        answers = {0: 0, 1: 1, 2: 0, 3: 1}
        told = [is_box(box(["x"])), is_box(switch),
                is_fold(counter(4), counter(2), [0, 1, 0, 1], {"add": "add"}, answers)]
        self.assertEqual(told, [True, False, True])

    def test_a_switch(self):
        switch = Thing(["set"], [[(0, 1)], [(1, 1)]])
        self.assertEqual(repr(switch), "Thing(['set'], [[(0, 1)], [(1, 1)]])")

    def test_a_ladder(self):
        self.assertEqual(ladder(3).states, 7)


class StageTwo(unittest.TestCase):
    def test_layouts(self):
        pair = Layout(switch(), 0, ["set"], ["set"])
        told = [list(pair.orders()), pair.behind([1, 0]), pair.mark(0, [1, 0]), pair.marks(0), pair.ends(1)]
        self.assertEqual(told, [[[0], [1], [0, 1], [1, 0]], ([0, 1], 1), (1, 1), {(0, 1): [0], (1, 1): [1]}, [1]])
        self.assertEqual(repr(pair), "Layout(Thing(['set'], [[(0, 1)], [(1, 1)]]), 0, ['set'], ['set'])")


class StageThree(unittest.TestCase):
    def test_telling(self):
        pair = Layout(switch(), 0, ["set"], ["set"])
        three = pair.with_hand(1, "set")
        told = [tells(pair), tells(three), blotted(three), shortest_blot(three), is_blot(three, (1, [0, 1], [2, 1]))]
        self.assertEqual(told, [True, False, [1, 2], 4, True])
        told = [verdict(pair, 0, (0, 1)), answers_tell(pair, 0), states_tell(pair),
                is_unseen(switch(), 0, "set", "set"), is_unseen(box(["x", "y"]), 0, "x", "y")]
        self.assertEqual(told, [0, True, False, False, True])


class StageFour(unittest.TestCase):
    def test_power(self):
        kept = keep(["x", "y"])
        told = [power(switch()), power(kept), power(ladder(3)), power(box(["x", "y"])), power(swap(["x", "y"])),
                power(counter(3))]
        self.assertEqual(told, [2, 4, 3, 1, 2, 2])
        told = [most(switch(), 0, "set", "set"), endless(kept), how_many(kept, 3), least_deeds(kept, 2),
                serving(kept, 4)]
        self.assertEqual(told, [1, [(0, "x", "y"), (0, "y", "x")], 2, [["x", "y"]], [0]])


class StageFive(unittest.TestCase):
    def test_a_race(self):
        told = [race().script(0), race().script(1)], race().hands, len(race())
        self.assertEqual(told, (RACE_SCRIPTS, 2, 6))

    def test_weavings(self):
        told = [is_right(race()), behind(race(), [1]), named(race(), [1]), how_many_full(race()), full_at(race(), 1),
                most_steps(race())]
        self.assertEqual(told, [True, ((0, 1), (1,)), {1: 1}, 2, [1, 0], 2])
        scripts = [[("do", 0, "set", {0: 1}), ("end", 0)], [("do", 0, "set", {0: 1}), ("end", 1)]]
        self.assertEqual([quarrel(race()), shortest_quarrel(Program([(switch(), 0)], scripts))], [None, 2])


class StageSix(unittest.TestCase):
    def test_places(self):
        pair = Layout(switch(), 0, ["set"], ["set"])
        told = [outcomes(race(), []), outcomes(race(), [1]), is_critical(race(), []), next_names(race(), []),
                layout_at(race(), []) == (0, pair, [0, 1]), longest_open(race())]
        self.assertEqual(told, [[0, 1], [1], True, [0, 1], True, 0])


class StageSeven(unittest.TestCase):
    def test_building(self):
        made = program_of(Layout(switch(), 0, ["set"], ["set"]))
        told = [is_right(made), is_made_of(made, [switch()]), settle(switch(), 3), trimmed(race()) == race(),
                exchanged(race(), [1, 0]) == race()]
        self.assertEqual(told, [True, True, None, True, True])


class StageEight(unittest.TestCase):
    def test_falls(self):
        pair, kept = Layout(switch(), 0, ["set"], ["set"]), keep(["x", "y"])
        told = [records(pair), power_with_falls(switch()), power_with_falls(ladder(2)), power_with_falls(kept),
                endless_with_falls(kept) == endless(kept)]
        self.assertEqual(told, [False, 1, 2, 4, True])
        told = [is_right_with_falls(race()), shortest_with_falls(race()),
                is_right_with_falls(settle_with_falls(kept, 2)), settle_with_falls(switch(), 2)]
        self.assertEqual(told, [False, 3, True, None])


class StageNine(unittest.TestCase):
    def test_texts_and_claims(self):
        pair = Layout(switch(), 0, ["set"], ["set"])
        told = [text_of(pair), read_layout(text_of(pair)) == pair, is_true(("no power", switch(), 3)),
                is_paper(("wrong with falls", race()), [0, ("fall", 0), 0])]
        text = "deeds set\nstate 0 1\nstate 1 1\nbegin 0\nteam set\nteam set\n"
        self.assertEqual(told, [text, True, True, True])

    def test_a_desk(self):
        desk = Desk(switch())
        told = [desk.do_all("power", "most 0 set set", "set 1 set 0 1", "power"),
                tried(desk, lambda held: held.do("undo")), desk[1, "set"], desk.undo(), desk.do("tells 0 set / set")]
        self.assertEqual(told, [["2", "1", "done", "1"], "done", (0, 1), None, "yes"])


if __name__ == "__main__":
    unittest.main()
