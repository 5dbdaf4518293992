"""The makers of well-known things."""

import unittest

from settlesfirst.errors import InvalidDeeds, InvalidNumber, TooMany
from settlesfirst.makers import box, counter, is_box, keep, ladder, swap
from settlesfirst.things import Thing
from tests.values import NO_INTEGERS, NO_LISTS, NO_NAMES, raised, switch

CELLS = (box, keep, swap)
FOUR = ["d", "abcdefgh", "b", "a"]


class Cells(unittest.TestCase):
    def test_box(self):
        self.assertEqual(box(["x"]), Thing(["x"], [[(0, 1)], [(0, 1)]]))
        self.assertEqual(box(["y", "x"]), Thing(["y", "x"], [[(0, 1), (0, 2)]] * 3))
        self.assertEqual(box(FOUR), Thing(FOUR, [[(0, 1), (0, 2), (0, 3), (0, 4)]] * 5))

    def test_keep(self):
        self.assertEqual(keep(["x"]), Thing(["x"], [[(0, 1)], [(0, 1)]]))
        self.assertEqual(keep(["y", "x"]), Thing(["y", "x"], [[(0, 1), (0, 2)], [(0, 1)] * 2, [(0, 2)] * 2]))
        rows = [[(0, 1), (0, 2), (0, 3), (0, 4)], [(0, 1)] * 4, [(0, 2)] * 4, [(0, 3)] * 4, [(0, 4)] * 4]
        self.assertEqual(keep(FOUR), Thing(FOUR, rows))

    def test_swap(self):
        self.assertEqual(swap(["x"]), Thing(["x"], [[(0, 1)], [(1, 1)]]))
        rows = [[(0, 1), (0, 2)], [(1, 1), (1, 2)], [(2, 1), (2, 2)]]
        self.assertEqual(swap(["y", "x"]), Thing(["y", "x"], rows))
        rows = [[(state, 1), (state, 2), (state, 3), (state, 4)] for state in range(5)]
        self.assertEqual(swap(FOUR), Thing(FOUR, rows))

    def test_tuples_and_names(self):
        for cell in CELLS:
            self.assertEqual(cell(("x", "y")), cell(["x", "y"]))
            self.assertEqual(cell(names=["x"]), cell(["x"]))
            self.assertEqual(type(cell(("x", "y")).deeds), list)

    def test_no_names(self):
        for cell in CELLS:
            for names in NO_LISTS + [[], ()]:
                self.assertEqual(raised(cell, names), (InvalidDeeds, {"position": None}), repr(names))
            for name in NO_NAMES:
                wrong = raised(cell, ["a", "b", name, name])
                self.assertEqual(wrong, (InvalidDeeds, {"position": 2}), repr(name))
            self.assertEqual(raised(cell, ["x", "y", "x"]), (InvalidDeeds, {"position": 2}))

    def test_too_many(self):
        for cell in CELLS:
            self.assertEqual(raised(cell, list("abcde")), (TooMany, {"what": "deeds", "limit": 4}))
            self.assertEqual(raised(cell, tuple("abcdefghi")), (TooMany, {"what": "deeds", "limit": 4}))
            self.assertEqual(raised(cell, ["a", "b", "c", "d", "e", 5]), (InvalidDeeds, {"position": 5}))

    def test_what_was_passed_can_be_changed(self):
        for cell in CELLS:
            names = ["x", "y"]
            thing = cell(names)
            names[0] = "q"
            names.append("r")
            thing.rows()[0][0] = (7, 7)
            thing.deeds.append("s")
            self.assertEqual((thing.deeds, thing), (["x", "y"], cell(["x", "y"])))


class Sizes(unittest.TestCase):
    def test_counter(self):
        self.assertEqual(counter(1), Thing(["add"], [[(0, 0)]]))
        self.assertEqual(counter(2), Thing(["add"], [[(0, 1)], [(1, 0)]]))
        self.assertEqual(counter(size=3), Thing(["add"], [[(0, 1)], [(1, 2)], [(2, 0)]]))
        self.assertEqual(counter(8).rows(), [[(k, k + 1)] for k in range(7)] + [[(7, 0)]])

    def test_ladder(self):
        self.assertEqual(ladder(1), Thing(["left", "right"], [[(0, 1), (0, 2)], [(0, 0)] * 2, [(0, 0)] * 2]))
        rows = [[(0, 1), (0, 3)], [(0, 2)] * 2, [(0, 0)] * 2, [(0, 4)] * 2, [(0, 0)] * 2]
        self.assertEqual(ladder(2), Thing(["left", "right"], rows))
        nexts = [(1, 4), (2, 2), (3, 3), (0, 0), (5, 5), (6, 6), (0, 0)]
        self.assertEqual(ladder(size=3).rows(), [[(0, one), (0, other)] for one, other in nexts])

    def test_the_greatest_ladder_has_nine_states(self):
        nexts = [(1, 5), (2, 2), (3, 3), (4, 4), (0, 0), (6, 6), (7, 7), (8, 8), (0, 0)]
        self.assertEqual(ladder(4).rows(), [[(0, one), (0, other)] for one, other in nexts])
        self.assertEqual((ladder(4).deeds, ladder(4).states), (["left", "right"], 9))

    def test_no_size(self):
        for maker, most in ((counter, 8), (ladder, 4)):
            for size in NO_INTEGERS + [0, -1, most + 1, 10 ** 29]:
                with self.assertRaises(InvalidNumber, msg=repr(size)) as caught:
                    maker(size)
                self.assertIs(caught.exception.value, size)


class Boxes(unittest.TestCase):
    def test_boxes(self):
        for names in (["x"], ["x", "y"], FOUR):
            self.assertIs(is_box(box(names)), True)
        self.assertIs(is_box(thing=Thing(["x", "y"], [[(0, 1), (0, 0)]] * 2)), True)
        self.assertIs(is_box(Thing(["x"], [[(0, 0)]])), True)
        self.assertIs(is_box(counter(1)), True)
        self.assertIs(is_box(keep(["x"])), True)

    def test_no_boxes(self):
        for thing in (switch(), counter(2), ladder(1), ladder(4), keep(["x", "y"]), swap(["x"]), swap(["x", "y"])):
            self.assertIs(is_box(thing), False)
        self.assertIs(is_box(Thing(["x"], [[(1, 0)]])), False)
        self.assertIs(is_box(Thing(["x", "y"], [[(0, 0), (0, 1)], [(0, 0), (1, 1)]])), False)
        self.assertIs(is_box(Thing(["x", "y"], [[(0, 0), (0, 1)], [(0, 0), (0, 0)]])), False)
        self.assertIs(is_box(Thing(["x"], [[(1, 1)], [(1, 1)]])), False)

    def test_boxes_beside_each_other_are_none(self):
        self.assertIs(is_box(box(["x"]) | box(["y"])), False)
        self.assertIs(is_box((box(["x"]) | box(["y"])).part(0, ["y"])), True)


if __name__ == "__main__":
    unittest.main()
