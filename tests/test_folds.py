"""Folds of a thing onto another one."""

import unittest
from itertools import product

from settlesfirst.makers import box, counter, keep, swap
from settlesfirst.things import Thing, is_fold
from tests.values import NO_DICTS, NO_INTEGERS, NO_LISTS, NO_NAMES, some_things, switch


def folds(one, other, states, deeds, answers):
    """What point 14 says, word by word, of values of the right kinds."""
    if set(states) != set(range(other.states)) or set(deeds.values()) != set(other.deeds):
        return False
    for state in range(one.states):
        for deed in one.deeds:
            answer, after = one(state, deed)
            if other(states[state], deeds[deed]) != (answers[answer], states[after]):
                return False
    return True


class Folds(unittest.TestCase):
    def test_a_counter_folds_onto_a_divisor(self):
        same = {"add": "add"}
        self.assertIs(is_fold(counter(4), counter(2), [0, 1, 0, 1], same, {0: 0, 1: 1, 2: 0, 3: 1}), True)
        self.assertIs(is_fold(counter(4), counter(2), (1, 0, 1, 0), same, {0: 1, 1: 0, 2: 1, 3: 0}), True)
        self.assertIs(is_fold(counter(6), counter(3), [0, 1, 2] * 2, same, {k: k % 3 for k in range(6)}), True)
        self.assertIs(is_fold(counter(4), counter(2), [0, 1, 0, 1], same, {0: 0, 1: 1, 2: 0, 3: 0}), False)
        self.assertIs(is_fold(counter(4), counter(3), [0, 1, 2, 0], same, {0: 0, 1: 1, 2: 2, 3: 0}), False)

    def test_each_thing_folds_onto_itself(self):
        for thing in some_things(30, "same"):
            answers = {answer: answer for row in thing.rows() for answer, _ in row}
            deeds = {deed: deed for deed in thing.deeds}
            self.assertIs(is_fold(thing, thing, list(range(thing.states)), deeds, answers), True)

    def test_by_name(self):
        told = is_fold(answers={0: 0, 1: 1}, deeds={"set": "put"}, states=[0, 1], one=switch(),
                       other=switch().renamed({"set": "put"}))
        self.assertIs(told, True)

    def test_both_deeds_onto_one(self):
        self.assertIs(is_fold(swap(["x", "y"]), swap(["x"]), [0, 1, 1], {"x": "x", "y": "x"}, {0: 0, 1: 1, 2: 1}), True)
        self.assertIs(is_fold(box(["x", "y"]), box(["a"]), [0, 1, 1], {"y": "a", "x": "a"}, {0: 0}), True)

    def test_each_state_of_the_other_must_be_some_ones(self):
        self.assertIs(is_fold(switch().part(1, ["set"]), switch(), [1], {"set": "set"}, {1: 1}), False)
        self.assertIs(is_fold(switch(), switch(), [1, 1], {"set": "set"}, {0: 1, 1: 1}), False)

    def test_each_deed_of_the_other_must_be_some_ones(self):
        other = Thing(["x", "y"], [[(0, 0), (0, 0)]])
        self.assertIs(is_fold(Thing(["x"], [[(0, 0)]]), other, [0], {"x": "x"}, {0: 0}), False)
        self.assertIs(is_fold(other, other, [0], {"x": "y", "y": "y"}, {0: 0}), False)
        self.assertIs(is_fold(other, other, [0], {"x": "y", "y": "x"}, {0: 0}), True)

    def test_an_answer_of_the_other_need_not_be_some_ones(self):
        one = Thing(["x", "y"], [[(5, 0), (5, 0)]])
        other = Thing(["a"], [[(7, 0)]])
        self.assertIs(is_fold(one, other, [0], {"x": "a", "y": "a"}, {5: 7}), True)
        self.assertIs(is_fold(one, other, [0], {"x": "a", "y": "a"}, {5: 5}), False)

    def test_the_keys_of_the_answers_are_just_those_of_the_table(self):
        for answers in ({}, {0: 0}, {1: 1}, {0: 0, 1: 1, 2: 2}, {0: 0, 2: 2}, {0: 0, 1: 1, 9: 0}):
            self.assertIs(is_fold(switch(), switch(), [0, 1], {"set": "set"}, answers), False, answers)
        self.assertIs(is_fold(switch(), switch(), [0, 1], {"set": "set"}, {1: 1, 0: 0}), True)

    def test_the_keys_of_the_deeds_are_just_those_of_the_one(self):
        kept = keep(["x", "y"])
        for deeds in ({}, {"x": "x"}, {"x": "x", "y": "y", "z": "x"}, {"x": "x", "z": "y"}):
            self.assertIs(is_fold(kept, kept, [0, 1, 2], deeds, {0: 0}), False, deeds)

    def test_what_lacks_something_is_no_fold_though_all_of_the_other_is_met(self):
        answers = {0: 0, 1: 1, 2: 1}
        self.assertIs(is_fold(swap(["x", "y"]), swap(["x"]), [0, 1], {"x": "x", "y": "x"}, answers), False)
        self.assertIs(is_fold(swap(["x", "y"]), swap(["x"]), [0, 1, 1, 1], {"x": "x", "y": "x"}, answers), False)
        self.assertIs(is_fold(swap(["x", "y"]), swap(["x"]), [0, 1, 1], {"x": "x"}, answers), False)
        self.assertIs(is_fold(swap(["x", "y"]), swap(["x"]), [0, 1, 1], {"y": "x"}, answers), False)

    def test_any_values_are_told_apart(self):
        right = [[0, 1], {"set": "set"}, {0: 0, 1: 1}]
        self.assertIs(is_fold(switch(), switch(), *right), True)
        wrong = [
            NO_LISTS + [[], [0], [0, 1, 1], [0, 2], [-1, 1], [1, 0]] + [[0, value] for value in NO_INTEGERS],
            NO_DICTS + [{}, {"set": "x"}, {True: "set"}] + [{"set": value} for value in NO_NAMES],
            NO_DICTS + [{}, {0: 0, True: 1}, {False: 0, 1: 1}, {0: 0, "1": 1}, {0: 0, 1: 10}, {0: 0, 1: -1}]
            + [{0: 0, 1: value} for value in NO_INTEGERS] + [{0: value, 1: 1} for value in NO_INTEGERS],
        ]
        for place, values in enumerate(wrong):
            for value in values:
                told = right[:place] + [value] + right[place + 1:]
                self.assertIs(is_fold(switch(), switch(), *told), False, repr(told))

    def test_true_is_not_one_where_the_table_would_agree(self):
        one = Thing(["x"], [[(1, 0)]])
        self.assertIs(is_fold(one, one, [0], {"x": "x"}, {1: 1}), True)
        self.assertIs(is_fold(one, one, [0], {"x": "x"}, {1: True}), False)
        self.assertIs(is_fold(one, one, [0], {"x": "x"}, {True: 1}), False)
        self.assertIs(is_fold(one, one, [False], {"x": "x"}, {1: 1}), False)

    def test_nothing_is_changed(self):
        states, deeds, answers = [0, 1], {"set": "set"}, {1: 1, 0: 0}
        is_fold(switch(), switch(), states, deeds, answers)
        self.assertEqual((states, deeds, list(answers)), ([0, 1], {"set": "set"}, [1, 0]))

    def test_all_small_ones(self):
        things = some_things(14, "folds", most_deeds=2, most_states=3, most_answer=1) + [switch(), counter(3)]
        things += [box(["x", "y"]), box(["x"]), keep(["x", "y"]), keep(["z"]), counter(2)]
        found = 0
        for one in things:
            for other in things:
                found += self.check_all(one, other)
        self.assertGreater(found, len(things))

    def check_all(self, one, other):
        heard = sorted({answer for row in one.rows() for answer, _ in row})
        found = 0
        for states in product(range(other.states), repeat=one.states):
            for told in product(other.deeds, repeat=len(one.deeds)):
                for said in product(range(3), repeat=len(heard)):
                    parts = (list(states), dict(zip(one.deeds, told)), dict(zip(heard, said)))
                    right = folds(one, other, *parts)
                    self.assertIs(is_fold(one, other, *parts), right)
                    found += right
        return found

    def test_things_beside_each_other(self):
        both = counter(2) | switch()
        answers = {0: 0, 1: 1}
        deeds = {"add": "sum", "set": "put"}
        other = counter(2).renamed({"add": "sum"}) | switch().renamed({"set": "put"})
        self.assertIs(is_fold(both, other, [0, 1, 2, 3], deeds, answers), True)
        self.assertIs(is_fold(both, other, [1, 0, 2, 3], deeds, answers), False)


if __name__ == "__main__":
    unittest.main()
