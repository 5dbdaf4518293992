"""Things: what is taken, what is told, and every error of the class."""

import unittest
from itertools import product

from settlesfirst.errors import (
    InvalidAnswers, InvalidDeed, InvalidDeeds, InvalidNames, InvalidRows, InvalidState, InvalidStates, InvalidWord,
    SharedDeed, TooMany,
)
from settlesfirst.makers import box, counter, keep, ladder, swap
from settlesfirst.things import Thing
from tests.values import NO_DICTS, NO_INTEGERS, NO_LISTS, NO_NAMES, raised, some_things, switch

FOUR = ["a", "b", "c", "d"]
FIVE = ["a", "b", "c", "d", "e"]


def same_rows(deeds, states):
    return [[(0, 0) for _ in deeds] for _ in range(states)]


class Making(unittest.TestCase):
    def test_ordinary(self):
        thing = Thing(["x", "y"], [[(0, 1), (9, 0)], [(3, 0), (4, 1)]])
        self.assertEqual(thing.deeds, ["x", "y"])
        self.assertEqual(thing.states, 2)
        self.assertEqual(thing.rows(), [[(0, 1), (9, 0)], [(3, 0), (4, 1)]])

    def test_the_edges_are_taken(self):
        for deeds in (["a"], FOUR):
            for states in (1, 8):
                thing = Thing(deeds, same_rows(deeds, states))
                self.assertEqual((thing.deeds, thing.states), (deeds, states))
        self.assertEqual(Thing(["a"], [[(0, 7)]] * 8).rows()[7], [(0, 7)])
        self.assertEqual(Thing(["a", "abcdefgh"], [[(0, 0), (9, 0)]]).rows(), [[(0, 0), (9, 0)]])
        self.assertEqual(Thing(["z", "zzzzzzzz"], [[(0, 0), (0, 0)]]).deeds, ["z", "zzzzzzzz"])

    def test_tuples_are_taken_as_lists(self):
        thing = Thing(("x", "y"), (((0, 1), (1, 0)), ((2, 0), (3, 1))))
        self.assertEqual(thing, Thing(["x", "y"], [[(0, 1), (1, 0)], [(2, 0), (3, 1)]]))
        self.assertEqual(type(thing.deeds), list)
        self.assertEqual([type(thing.rows()), type(thing.rows()[0]), type(thing.rows()[0][0])], [list, list, tuple])

    def test_by_name(self):
        self.assertEqual(Thing(rows=[[(0, 1)], [(1, 1)]], deeds=["set"]), switch())

    def test_deeds_that_are_no_list(self):
        for deeds in NO_LISTS + [[], ()]:
            self.assertEqual(raised(Thing, deeds, [[(0, 0)]]), (InvalidDeeds, {"position": None}), repr(deeds))

    def test_deeds_that_are_no_names(self):
        for name in NO_NAMES:
            self.assertEqual(raised(Thing, [name], [[(0, 0)]]), (InvalidDeeds, {"position": 0}), repr(name))
            self.assertEqual(raised(Thing, ["a", "b", name], [[(0, 0)]]), (InvalidDeeds, {"position": 2}), repr(name))
            self.assertEqual(raised(Thing, ["a", name, 7], [[(0, 0)]]), (InvalidDeeds, {"position": 1}), repr(name))

    def test_deeds_that_stand_ahead(self):
        self.assertEqual(raised(Thing, ["a", "a"], [[(0, 0)] * 2]), (InvalidDeeds, {"position": 1}))
        self.assertEqual(raised(Thing, ["a", "b", "a", 5], [[(0, 0)] * 4]), (InvalidDeeds, {"position": 2}))
        self.assertEqual(raised(Thing, ["a", "b", 5, "a"], [[(0, 0)] * 4]), (InvalidDeeds, {"position": 2}))

    def test_rows_that_are_no_list(self):
        for rows in NO_LISTS + [[], ()]:
            self.assertEqual(raised(Thing, ["a"], rows), (InvalidRows, {"position": None}), repr(rows))

    def test_rows_with_what_is_no_list(self):
        for row in NO_LISTS:
            self.assertEqual(raised(Thing, ["a"], [row]), (InvalidRows, {"position": 0}), repr(row))
            self.assertEqual(raised(Thing, ["a"], [[(0, 0)], row, 7]), (InvalidRows, {"position": 1}), repr(row))

    def test_rows_of_another_length(self):
        for row in ([], [(0, 0)], [(0, 0), (0, 0), (0, 0)], (), ((0, 0),)):
            wrong = raised(Thing, ["a", "b"], [[(0, 0), (0, 0)], row])
            self.assertEqual(wrong, (InvalidRows, {"position": 1}), repr(row))

    def test_rows_with_what_is_no_tuple(self):
        for entry in [[0, 0], (), (0,), (0, 0, 0), "00", b"00", {0: 0, 1: 0}, None, 0, True, {0, 1}]:
            wrong = raised(Thing, ["a", "b"], [[(0, 0), (0, 0)], [(0, 0), entry]])
            self.assertEqual(wrong, (InvalidRows, {"position": 1}), repr(entry))

    def test_answers_and_next_states_that_are_no_integers(self):
        for value in NO_INTEGERS:
            for entry in ((value, 0), (0, value)):
                wrong = raised(Thing, ["a"], [[(0, 0)], [entry], [(0, 9)]])
                self.assertEqual(wrong, (InvalidRows, {"position": 1}), repr(entry))

    def test_answers_and_next_states_beyond_the_limits(self):
        for entry in ((10, 0), (-1, 0), (10 ** 29, 0), (0, 2), (0, -1), (0, 10 ** 29)):
            self.assertEqual(raised(Thing, ["a"], [[(0, 1)], [entry]]), (InvalidRows, {"position": 1}), repr(entry))
            self.assertEqual(raised(Thing, ["a"], [[entry], [(0, 1)]]), (InvalidRows, {"position": 0}), repr(entry))

    def test_too_many(self):
        self.assertEqual(raised(Thing, FIVE, same_rows(FIVE, 1)), (TooMany, {"what": "deeds", "limit": 4}))
        self.assertEqual(raised(Thing, ["a"], same_rows(["a"], 9)), (TooMany, {"what": "states", "limit": 8}))
        self.assertEqual(raised(Thing, FIVE, same_rows(FIVE, 9)), (TooMany, {"what": "deeds", "limit": 4}))

    def test_the_first_error_is_raised(self):
        self.assertEqual(raised(Thing, [], []), (InvalidDeeds, {"position": None}))
        self.assertEqual(raised(Thing, ["a", "A"], 7), (InvalidDeeds, {"position": 1}))
        self.assertEqual(raised(Thing, FIVE, [[(0, 0)] * 5, 7]), (InvalidRows, {"position": 1}))
        self.assertEqual(raised(Thing, FIVE + ["a"], same_rows(FIVE, 9)), (InvalidDeeds, {"position": 5}))
        self.assertEqual(raised(Thing, ["a"], same_rows(["a"], 8) + [[(0, 9)]]), (InvalidRows, {"position": 8}))

    def test_what_was_passed_can_be_changed(self):
        deeds, rows = ["a"], [[(0, 1)], [(1, 0)]]
        thing = Thing(deeds, rows)
        deeds[0] = "b"
        deeds.append("c")
        rows[0][0] = (5, 0)
        rows.append([(0, 0)])
        self.assertEqual((thing.deeds, thing.states, thing.rows()), (["a"], 2, [[(0, 1)], [(1, 0)]]))

    def test_what_was_passed_is_not_changed(self):
        deeds, rows = ["b", "a"], [[(0, 1), (0, 0)], [(1, 0), (0, 0)]]
        Thing(deeds, rows)
        self.assertEqual((deeds, rows), (["b", "a"], [[(0, 1), (0, 0)], [(1, 0), (0, 0)]]))

    def test_what_was_told_can_be_changed(self):
        thing = Thing(["a"], [[(0, 1)], [(1, 0)]])
        thing.deeds.append("b")
        thing.rows().append([])
        thing.rows()[0].append((5, 5))
        thing.rows()[1][0] = (7, 7)
        thing.reached(0).append(9)
        thing.run(0, ["a"])[0].append(9)
        self.assertEqual((thing.deeds, thing.rows(), thing.reached(0)), (["a"], [[(0, 1)], [(1, 0)]], [0, 1]))
        self.assertEqual(thing.run(0, ["a"]), ([0], 1))

    def test_the_properties_cannot_be_set(self):
        thing = switch()
        for name in ("deeds", "states"):
            with self.assertRaises(AttributeError):
                setattr(thing, name, 1)


class Doing(unittest.TestCase):
    def test_a_deed(self):
        thing = Thing(["x", "y"], [[(0, 1), (9, 0)], [(3, 0), (4, 1)]])
        self.assertEqual([thing(0, "x"), thing(0, "y"), thing(1, "x"), thing(1, "y")], [(0, 1), (9, 0), (3, 0), (4, 1)])
        self.assertEqual(thing(deed="x", state=1), (3, 0))

    def test_words(self):
        thing = Thing(["x", "y"], [[(0, 1), (9, 0)], [(3, 0), (4, 1)]])
        self.assertEqual(thing.run(0, ["y", "x", "y", "x", "x"]), ([9, 0, 4, 3, 0], 1))
        self.assertEqual(thing.run(1, ("x",)), ([3], 0))
        self.assertEqual(thing.run(word=["y"], state=0), ([9], 0))
        told = thing.run(0, ["x"])
        self.assertEqual([type(told), type(told[0])], [tuple, list])

    def test_the_empty_word(self):
        self.assertEqual([switch().run(1, []), switch().run(0, ())], [([], 1), ([], 0)])

    def test_a_word_is_done_one_deed_behind_the_other(self):
        for thing in some_things(40, "words"):
            word = [thing.deeds[k % len(thing.deeds)] for k in range(7)]
            for state in range(thing.states):
                at, answers = state, []
                for deed in word:
                    answer, at = thing(at, deed)
                    answers.append(answer)
                self.assertEqual(thing.run(state, word), (answers, at))

    def test_no_state(self):
        for state in NO_INTEGERS + [-1, 2, 10 ** 29]:
            for action in (lambda: switch()(state, "set"), lambda: switch().run(state, ["set"]),
                           lambda: switch().reached(state), lambda: switch().part(state, ["set"])):
                with self.assertRaises(InvalidState) as caught:
                    action()
                self.assertIs(caught.exception.value, state)

    def test_no_deed(self):
        for deed in NO_NAMES + ["x", "se", "setset"]:
            with self.assertRaises(InvalidDeed) as caught:
                switch()(0, deed)
            self.assertIs(caught.exception.value, deed)

    def test_no_word(self):
        for word in NO_LISTS:
            self.assertEqual(raised(switch().run, 0, word), (InvalidWord, {"position": None}), repr(word))
        for deed in NO_NAMES + ["x"]:
            wrong = raised(switch().run, 0, ["set", deed, "set", deed])
            self.assertEqual(wrong, (InvalidWord, {"position": 1}), repr(deed))

    def test_the_state_is_looked_at_first(self):
        self.assertEqual(raised(switch(), True, "x"), (InvalidState, {"value": True}))
        self.assertEqual(raised(switch().run, 2, "x"), (InvalidState, {"value": 2}))
        self.assertEqual(raised(switch().part, 2, "x"), (InvalidState, {"value": 2}))


class Reached(unittest.TestCase):
    def test_ordinary(self):
        self.assertEqual([switch().reached(0), switch().reached(1)], [[0, 1], [1]])
        self.assertEqual(counter(5).reached(3), [0, 1, 2, 3, 4])
        self.assertEqual(keep(["x", "y"]).reached(2), [2])
        self.assertEqual(box(["x", "y"]).reached(2), [1, 2])
        self.assertEqual(switch().reached(state=1), [1])

    def test_the_state_itself_is_reached_by_the_empty_word(self):
        self.assertEqual(box(["x"]).reached(0), [0, 1])
        self.assertEqual(box(["x"]).reached(1), [1])

    def test_by_words(self):
        for thing in some_things(60, "reached"):
            for state in range(thing.states):
                found = {state}
                for _ in range(thing.states):
                    found |= {thing(at, deed)[1] for at in found for deed in thing.deeds}
                self.assertEqual(thing.reached(state), sorted(found))


class Parts(unittest.TestCase):
    def test_ordinary(self):
        kept = keep(["x", "y"])
        self.assertEqual(kept.part(0, ["y"]), Thing(["y"], [[(0, 1)], [(0, 1)]]))
        self.assertEqual(kept.part(1, ["y"]), Thing(["y"], [[(0, 0)]]))
        self.assertEqual(kept.part(deeds=("x",), state=0), Thing(["x"], [[(0, 1)], [(0, 1)]]))

    def test_the_deeds_are_in_the_things_sequence(self):
        thing = Thing(["b", "a", "c"], [[(0, 2), (1, 1), (2, 0)], [(3, 1), (4, 1), (5, 1)], [(6, 0), (7, 1), (8, 2)]])
        told = Thing(["b", "a"], [[(0, 1), (1, 2)], [(6, 0), (7, 2)], [(3, 2), (4, 2)]])
        self.assertEqual(thing.part(0, ["a", "b"]), told)
        self.assertEqual(thing.part(0, ["b", "a"]), told)

    def test_states_are_numbered_as_they_are_met(self):
        self.assertEqual(counter(4).part(2, ["add"]), Thing(["add"], [[(2, 1)], [(3, 2)], [(0, 3)], [(1, 0)]]))
        thing = Thing(["a", "b"], [[(0, 3), (0, 2)], [(1, 1), (1, 1)], [(2, 0), (2, 2)], [(3, 4), (3, 1)],
                                   [(4, 4), (4, 4)]])
        told = Thing(["a", "b"], [[(0, 1), (0, 2)], [(3, 3), (3, 4)], [(2, 0), (2, 2)], [(4, 3), (4, 3)],
                                  [(1, 4), (1, 4)]])
        self.assertEqual(thing.part(0, ["a", "b"]), told)

    def test_parts_do_what_the_thing_does(self):
        for thing in some_things(60, "parts"):
            for state in range(thing.states):
                for deeds in ([thing.deeds[-1]], thing.deeds[::-1], thing.deeds[:2]):
                    self.check_part(thing, state, deeds)

    def check_part(self, thing, state, deeds):
        part = thing.part(state, deeds)
        self.assertEqual(part.deeds, [deed for deed in thing.deeds if deed in deeds])
        met = [0]
        for row in part.rows():
            for _, after in row:
                met += [after] if after not in met else []
        self.assertEqual(met, list(range(part.states)))
        words = [list(word) for length in range(5) for word in product(deeds, repeat=length)]
        ends = {}
        for word in words:
            self.assertEqual(part.run(0, word)[0], thing.run(state, word)[0])
            ends.setdefault(part.run(0, word)[1], set()).add(thing.run(state, word)[1])
        self.assertEqual([len(found) for found in ends.values()], [1] * len(ends))
        self.assertEqual(len({min(found) for found in ends.values()}), len(ends))

    def test_no_deeds(self):
        for deeds in NO_LISTS + [[], ()]:
            self.assertEqual(raised(switch().part, 0, deeds), (InvalidDeeds, {"position": None}), repr(deeds))
        for deed in NO_NAMES + ["x"]:
            wrong = raised(switch().part, 0, ["set", deed, deed])
            self.assertEqual(wrong, (InvalidDeeds, {"position": 1}), repr(deed))
            self.assertEqual(raised(switch().part, 0, [deed, 7]), (InvalidDeeds, {"position": 0}), repr(deed))

    def test_deeds_that_stand_ahead(self):
        kept = keep(["x", "y"])
        self.assertEqual(raised(kept.part, 0, ["x", "y", "x", "zz"]), (InvalidDeeds, {"position": 2}))
        self.assertEqual(raised(kept.part, 0, ["x", "zz", "x"]), (InvalidDeeds, {"position": 1}))

    def test_what_was_passed_is_not_changed(self):
        deeds = ["y", "x"]
        keep(["x", "y"]).part(0, deeds)
        self.assertEqual(deeds, ["y", "x"])


class Numbered(unittest.TestCase):
    def test_ordinary(self):
        thing = Thing(["a", "b"], [[(0, 1), (1, 2)], [(2, 2), (3, 0)], [(4, 0), (5, 2)]])
        told = Thing(["a", "b"], [[(4, 1), (5, 0)], [(0, 2), (1, 0)], [(2, 0), (3, 1)]])
        self.assertEqual(thing.numbered([2, 0, 1]), told)
        self.assertEqual(thing.numbered(order=(0, 1, 2)), thing)
        self.assertEqual(told.numbered([1, 2, 0]), thing)

    def test_state_order_k_is_called_k(self):
        for thing in some_things(40, "numbered"):
            order = [(3 * k + 1) % thing.states for k in range(thing.states)]
            if len(set(order)) < thing.states:
                order = list(range(thing.states))[::-1]
            told = thing.numbered(order)
            for k, elder in enumerate(order):
                for deed in thing.deeds:
                    answer, after = thing(elder, deed)
                    self.assertEqual((told(k, deed)[0], order[told(k, deed)[1]]), (answer, after))

    def test_no_list_of_all_states(self):
        wrong = NO_LISTS + [[], (), [0], [0, 0], [1, 1], [0, 1, 1], [0, 1, 2], [0, 2], [-1, 0], [1, -1], [0, 1, 0]]
        wrong += [[0, value] for value in NO_INTEGERS] + [[value, 1] for value in NO_INTEGERS]
        for order in wrong:
            with self.assertRaises(InvalidStates, msg=repr(order)) as caught:
                switch().numbered(order)
            self.assertIs(caught.exception.value, order)

    def test_what_was_passed_is_not_changed(self):
        order = [1, 0]
        told = switch().numbered(order)
        self.assertEqual(order, [1, 0])
        order.reverse()
        self.assertEqual(told, Thing(["set"], [[(1, 0)], [(0, 0)]]))


class Renamed(unittest.TestCase):
    def test_ordinary(self):
        kept = keep(["x", "y"])
        self.assertEqual(kept.renamed({"x": "a"}), keep(["a", "y"]))
        self.assertEqual(kept.renamed(names={"y": "abcdefgh", "x": "z"}), keep(["z", "abcdefgh"]))
        self.assertEqual(kept.renamed({"x": "y", "y": "x"}), keep(["y", "x"]))
        self.assertEqual([kept.renamed({}), kept.renamed({"x": "x"})], [kept, kept])

    def test_no_such_names(self):
        wrong = NO_DICTS + [{"x": "y"}, {"x": "a", "y": "a"}, {"a": "b"}, {"a": "a"}, {"x": "a", "a": "b"}]
        wrong += [{"x": name} for name in NO_NAMES] + [{"y": "b", "x": name} for name in NO_NAMES]
        wrong += [{name: "b"} for name in (None, True, 0, "", "X", ("x",), b"x", int)]
        for names in wrong:
            with self.assertRaises(InvalidNames, msg=repr(names)) as caught:
                keep(["x", "y"]).renamed(names)
            self.assertIs(caught.exception.value, names)

    def test_what_was_passed_is_not_changed(self):
        names = {"set": "put"}
        told = switch().renamed(names)
        self.assertEqual(names, {"set": "put"})
        names["set"] = "get"
        self.assertEqual(told.deeds, ["put"])


class Answered(unittest.TestCase):
    def test_ordinary(self):
        self.assertEqual(counter(3).answered({0: 5, 2: 9}).rows(), [[(5, 1)], [(1, 2)], [(9, 0)]])
        self.assertEqual(counter(2).answered(answers={0: 1, 1: 0}).rows(), [[(1, 1)], [(0, 0)]])
        self.assertEqual(counter(2).answered({}), counter(2))
        self.assertEqual(counter(2).answered({9: 0, 7: 1}), counter(2))
        self.assertEqual(counter(2).answered({0: 1}).rows(), [[(1, 1)], [(1, 0)]])

    def test_no_such_answers(self):
        wrong = NO_DICTS + [{0: 10}, {0: -1}, {10: 0}, {-1: 0}, {0: 1, 1: 10}, {10 ** 29: 0}, {0: 10 ** 29}]
        wrong += [{0: value} for value in NO_INTEGERS]
        wrong += [{value: 0} for value in (None, True, False, "0", (0,), b"0", int)]
        for answers in wrong:
            with self.assertRaises(InvalidAnswers, msg=repr(answers)) as caught:
                switch().answered(answers)
            self.assertIs(caught.exception.value, answers)

    def test_what_was_passed_is_not_changed(self):
        answers = {0: 5}
        told = switch().answered(answers)
        self.assertEqual(answers, {0: 5})
        answers[0] = 6
        self.assertEqual(told.rows(), [[(5, 1)], [(1, 1)]])


class Beside(unittest.TestCase):
    def test_ordinary(self):
        told = Thing(["set", "x"], [[(0, 2), (0, 1)], [(0, 3), (0, 1)], [(1, 2), (0, 3)], [(1, 3), (0, 3)]])
        self.assertEqual(switch() | box(["x"]), told)
        told = Thing(["x", "set"], [[(0, 2), (0, 1)], [(0, 3), (1, 1)], [(0, 2), (0, 3)], [(0, 3), (1, 3)]])
        self.assertEqual(box(["x"]) | switch(), told)

    def test_each_acts_on_its_own_thing(self):
        for one, elder in zip(some_things(40, "one"), some_things(40, "other")):
            other = elder.renamed({deed: deed * 2 for deed in elder.deeds})
            both, many = one | other, other.states
            self.assertEqual((both.deeds, both.states), (one.deeds + other.deeds, one.states * many))
            for s in range(one.states):
                for t in range(many):
                    for deed in one.deeds:
                        answer, after = one(s, deed)
                        self.assertEqual(both(s * many + t, deed), (answer, after * many + t))
                    for deed in other.deeds:
                        answer, after = other(t, deed)
                        self.assertEqual(both(s * many + t, deed), (answer, s * many + after))

    def test_a_shared_deed(self):
        one, other = keep(["x", "y", "z"]), keep(["a", "z", "y"])
        self.assertEqual(raised(lambda: one | other), (SharedDeed, {"value": "y"}))
        self.assertEqual(raised(lambda: other | one), (SharedDeed, {"value": "z"}))
        self.assertEqual(raised(lambda: one | one), (SharedDeed, {"value": "x"}))

    def test_nothing_is_changed(self):
        one, other = keep(["x", "y"]), keep(["a", "b"])
        both = one | other
        both.rows()[0][0] = (7, 7)
        both.deeds.append("q")
        self.assertEqual((one, other), (keep(["x", "y"]), keep(["a", "b"])))
        self.assertEqual(both, one | other)


class BeyondTheLimits(unittest.TestCase):
    """What the package makes has more deeds and states than may be passed, and is used as any other."""

    def setUp(self):
        self.both = keep(["a", "b", "c"]) | swap(["x", "y", "z"])

    def test_it_is_told_and_done(self):
        self.assertEqual((self.both.deeds, self.both.states, len(self.both)), (["a", "b", "c", "x", "y", "z"], 16, 16))
        self.assertEqual([self.both(0, "c"), self.both(15, "x"), self.both(15, "a")], [(0, 12), (3, 13), (0, 15)])
        self.assertEqual(self.both.run(0, ["c", "y", "x", "a"]), ([0, 0, 2, 0], 13))
        self.assertEqual(self.both.reached(4), [4, 5, 6, 7])
        self.assertEqual(["z" in self.both, "d" in self.both], [True, False])
        self.assertEqual(raised(self.both, 16, "a"), (InvalidState, {"value": 16}))

    def test_things_are_made_of_it(self):
        self.assertEqual(self.both.part(0, ["z", "y", "x"]), swap(["x", "y", "z"]))
        self.assertEqual(self.both.part(0, self.both.deeds).states, 16)
        self.assertEqual(self.both.part(0, ["a", "b", "c", "x", "y"]).states, 12)
        order = list(range(16))[::-1]
        self.assertEqual(self.both.numbered(order).numbered(order), self.both)
        self.assertEqual(self.both.renamed({"a": "q"}), keep(["q", "b", "c"]) | swap(["x", "y", "z"]))
        self.assertEqual(self.both.answered({3: 7})(3, "x"), (7, 1))
        more = self.both | counter(8)
        self.assertEqual((len(more.deeds), more.states, more(127, "add")), (7, 128, (7, 120)))

    def test_it_cannot_be_passed_part_by_part(self):
        limit = raised(Thing, self.both.deeds, self.both.rows())
        self.assertEqual(limit, (TooMany, {"what": "deeds", "limit": 4}))
        tall = ladder(4)
        self.assertEqual(raised(Thing, tall.deeds, tall.rows()), (TooMany, {"what": "states", "limit": 8}))

    def test_the_tall_ladder_is_a_thing_as_any_other(self):
        self.assertEqual((ladder(4).states, ladder(4).run(0, ["right"] * 5)), (9, ([0] * 5, 0)))
        self.assertEqual(ladder(4).part(5, ["left"]).states, 9)


class Signs(unittest.TestCase):
    def test_len(self):
        self.assertEqual([len(switch()), len(counter(8)), len(counter(1))], [2, 8, 1])

    def test_in(self):
        thing = keep(["x", "y"])
        self.assertEqual(["x" in thing, "y" in thing, "z" in thing, "xy" in thing], [True, True, False, False])
        for value in NO_NAMES:
            self.assertIs(value in thing, False, repr(value))

    def test_equal(self):
        thing = Thing(["x", "y"], [[(0, 1), (1, 0)], [(2, 0), (3, 1)]])
        self.assertEqual(thing, Thing(("x", "y"), (((0, 1), (1, 0)), ((2, 0), (3, 1)))))
        self.assertNotEqual(thing, Thing(["y", "x"], thing.rows()))
        self.assertNotEqual(thing, Thing(["x", "y"], [[(0, 1), (1, 0)], [(2, 0), (3, 0)]]))
        self.assertNotEqual(thing, Thing(["x", "y"], [[(0, 1), (1, 0)], [(2, 0), (4, 1)]]))
        self.assertNotEqual(counter(2), counter(3))
        self.assertNotEqual(counter(2), counter(2).renamed({"add": "sub"}))
        self.assertIs(thing == Thing(thing.deeds, thing.rows()), True)
        self.assertIs(thing != Thing(thing.deeds, thing.rows()), False)

    def test_made_in_other_ways_they_are_equal(self):
        self.assertEqual(box(["x"]).part(1, ["x"]), Thing(["x"], [[(0, 0)]]))
        self.assertEqual(Thing(["x"], [[(0, 1)], [(0, 1)]]), box(("x",)))

    def test_not_equal_to_values_of_another_kind(self):
        for value in (None, True, 0, 2, "set", [], ["set"], (["set"], [[(0, 1)], [(1, 1)]]), {}, object(), Thing,
                      repr(switch())):
            self.assertIs(switch() == value, False)
            self.assertIs(value == switch(), False)

    def test_repr(self):
        self.assertEqual(repr(switch()), "Thing(['set'], [[(0, 1)], [(1, 1)]])")
        told = repr(Thing(("x", "y"), (((0, 0), (9, 0)),)))
        self.assertEqual(told, "Thing(['x', 'y'], [[(0, 0), (9, 0)]])")
        self.assertEqual(repr(switch() | box(["x"]).part(1, ["x"])), "Thing(['set', 'x'], [[(0, 1), (0, 0)], "
                                                                     "[(1, 1), (0, 1)]])")


if __name__ == "__main__":
    unittest.main()
