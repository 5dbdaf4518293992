"""The examples of the interface."""

import unittest

from settlesfirst.makers import box, counter, is_box, keep, ladder
from settlesfirst.things import Thing, is_fold


class StageOne(unittest.TestCase):
    def test_things(self):
        switch = Thing(["set"], [[(0, 1)], [(1, 1)]])
        told = [switch(0, "set"), switch.run(0, ["set", "set"]), box(["x"]).rows(), keep(["x", "y"]).rows()[1],
                (switch | box(["x"])).states]
        self.assertEqual(told, [(0, 1), ([0, 1], 1), [[(0, 1)], [(0, 1)]], [(0, 1), (0, 1)], 4])

    def test_folds(self):
        switch = Thing(["set"], [[(0, 1)], [(1, 1)]])
        answers = {0: 0, 1: 1, 2: 0, 3: 1}
        told = [is_box(box(["x"])), is_box(switch),
                is_fold(counter(4), counter(2), [0, 1, 0, 1], {"add": "add"}, answers)]
        self.assertEqual(told, [True, False, True])

    def test_a_switch(self):
        switch = Thing(["set"], [[(0, 1)], [(1, 1)]])
        self.assertEqual(repr(switch), "Thing(['set'], [[(0, 1)], [(1, 1)]])")

    def test_a_ladder(self):
        self.assertEqual(ladder(3).states, 7)


if __name__ == "__main__":
    unittest.main()
