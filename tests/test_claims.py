"""Claims: which are true, their papers, and what is no claim or no paper."""

import unittest

from settlesfirst.building import settle
from settlesfirst.claims import is_claim, is_paper, is_true, paper_of
from settlesfirst.errors import InvalidClaim
from settlesfirst.falls import is_right_with_falls, settle_with_falls
from settlesfirst.layouts import Layout
from settlesfirst.makers import box, counter, keep, ladder, swap
from settlesfirst.places import is_open
from settlesfirst.power import bars, endless, is_endless, power, telling_layouts
from settlesfirst.programs import Program
from settlesfirst.telling import tells, verdicts
from settlesfirst.things import Thing
from settlesfirst.weavings import can_step, is_right, named
from tests import plain, weaver
from tests.values import NO_INTEGERS, NO_LISTS, Equal, raised, some_things, switch

KEPT = keep(["x", "y"])
PAIR = Layout(switch(), 0, ["set"], ["set"])
THREE = PAIR.with_hand(1, "set")
KEPT_PAIR = Layout(KEPT, 0, ["x"], ["y"])
SET = ("do", 0, "set", {0: 1, 1: 2})
RACE = Program([(switch(), 0)], [[SET, ("end", 0), ("end", 1)], [SET, ("end", 1), ("end", 0)]])
WRONG = Program([(switch(), 0)], [[SET, ("end", 0), ("end", 1)], [SET, ("end", 1), ("end", 1)]])
WORDS = ["tells", "blotted", "power", "no power", "endless", "wrong", "open", "records", "not recording",
         "wrong with falls"]
OF_LAYOUTS = ["tells", "blotted", "records", "not recording"]
# Each claim of the first list is true, and the one beside it is not.
TRUE = [("tells", PAIR), ("blotted", THREE), ("power", switch(), 2), ("no power", switch(), 3), ("endless", KEPT),
        ("wrong", WRONG), ("open", RACE, []), ("records", KEPT_PAIR), ("not recording", PAIR), ("wrong with falls", RACE)]
FALSE = [("tells", THREE), ("blotted", PAIR), ("power", switch(), 3), ("no power", switch(), 2), ("endless", switch()),
         ("wrong", RACE), ("open", RACE, [0]), ("records", PAIR), ("not recording", KEPT_PAIR),
         ("wrong with falls", settle_with_falls(KEPT, 2))]
BY_CLAIM = [is_true, paper_of, lambda claim: is_paper(claim, None)]


def in_tuples(value):
    """The same with tuples in the place of lists."""
    if isinstance(value, (list, tuple)):
        return tuple(in_tuples(part) for part in value)
    if isinstance(value, dict):
        return {key: in_tuples(part) for key, part in value.items()}
    return value


def in_lists(value):
    """The same with lists in the place of tuples; but not within dicts, where marks are keys."""
    if isinstance(value, (list, tuple)):
        return [in_lists(part) for part in value]
    return value


def some_claims():
    """Claims on the same things, most of them with their contrary."""
    found = list(TRUE) + list(FALSE)
    things = some_things(10, 51) + [switch(), KEPT, counter(3), ladder(3), box(["x", "y"]), swap(["x", "y"])]
    for thing in things:
        found.append(("endless", thing))
        for number in (2, 3, 4):
            found += [("power", thing, number), ("no power", thing, number)]
            layouts = plain.layouts(thing, number)
            for layout in layouts[:2] + layouts[-1:]:
                found += [(word, layout) for word in OF_LAYOUTS] + [(word, ~layout) for word in OF_LAYOUTS]
    for program in weaver.some_programs(12, 5) + weaver.some_right_programs(8, 5) + [settle(KEPT, 3)]:
        found += [("wrong", program), ("wrong with falls", program), ("open", program, ())]
        for weaving in ([0], [1], (1, 0)):
            if is_claim(("open", program, weaving)):
                found.append(("open", program, weaving))
    return found


def expected_truth(claim):
    word, about = claim[0], claim[1]
    if word in ("power", "no power"):
        return (power(about) >= claim[2]) == (word == "power")
    if word == "open":
        return is_right(about) and is_open(about, claim[2])
    told = {"tells": (tells, True), "blotted": (tells, False), "endless": (is_endless, True), "wrong": (is_right, False),
            "records": (plain.records, True), "not recording": (plain.records, False),
            "wrong with falls": (is_right_with_falls, False)}[word]
    return told[0](about) == told[1]


class Claims(unittest.TestCase):
    def test_ordinary(self):
        for claim in TRUE + FALSE:
            self.assertIs(is_claim(claim), True, repr(claim))
            self.assertIs(is_true(claim), claim in TRUE, repr(claim[0]))
        self.assertEqual([is_claim(value=TRUE[0]), is_true(claim=TRUE[0]), paper_of(claim=FALSE[0])], [True, True, None])
        self.assertIs(is_paper(value=verdicts(PAIR), claim=TRUE[0]), True)

    def test_all(self):
        met = {}
        for claim in some_claims():
            expected = expected_truth(claim)
            self.assertIs(is_true(claim), expected, claim[0])
            paper = paper_of(claim)
            self.assertEqual(paper is not None, expected)
            self.assertIs(is_paper(claim, paper), expected)
            met.setdefault(claim[0], set()).add(expected)
        self.assertEqual(met, {word: {True, False} for word in WORDS})

    def test_a_claim_or_its_contrary(self):
        for one, other in (("tells", "blotted"), ("power", "no power"), ("records", "not recording")):
            for claim in some_claims():
                if claim[0] == one:
                    self.assertNotEqual(is_true(claim), is_true((other,) + claim[1:]))

    def test_weavings_of_claims(self):
        for weaving in ([], (), [0], [1, 0], (0, 1)):
            self.assertIs(is_claim(("open", RACE, weaving)), True)
        for weaving in ([0, 0], [2], [True], [False], [None], None, 0, "", {}, [0, 1, 0], [("fall", 0)], [[0]]):
            self.assertIs(is_claim(("open", RACE, weaving)), False, repr(weaving))
        self.assertEqual([is_claim(("open", WRONG, weaving)) for weaving in ([], [0], [1], [1, 0], [0, 1])],
                         [True, True, True, True, False])
        for weaving in ([], [0], [1], [1, 0]):
            self.assertEqual((is_true(("open", WRONG, weaving)), paper_of(("open", WRONG, weaving))), (False, None))

    def test_what_is_no_claim(self):
        values = NO_LISTS + NO_INTEGERS + [(), [], ("tells",), ("tells", PAIR, PAIR), ["tells", PAIR], ("Tells", PAIR),
                                           ("power", KEPT), ("power", KEPT, 2, 2), ("endless", KEPT, 2), ("open", RACE),
                                           ("open", RACE, [], []), ("wrong", RACE, []), (PAIR, "tells"), (None, PAIR),
                                           (Equal(), PAIR), ("", PAIR), ("tells ", PAIR), (["tells"], PAIR), (b"tells", PAIR),
                                           ("power", 2, KEPT), (("tells",), PAIR), ({}, PAIR), "tells", RACE]
        for word in OF_LAYOUTS:
            values += [(word, about) for about in (KEPT, RACE, None, Equal(), 0, [PAIR], Layout, "x")]
        for word in ("wrong", "wrong with falls"):
            values += [(word, about) for about in (KEPT, PAIR, None, Equal(), [RACE], Program)]
        values += [("endless", about) for about in (PAIR, RACE, None, Equal(), Thing, [KEPT])]
        for number in NO_INTEGERS + [-1, 0, 1, 5, 10 ** 29]:
            values += [("power", KEPT, number), ("no power", KEPT, number)]
        values += [(word, about, 2) for word in ("power", "no power") for about in (PAIR, RACE, None, Equal())]
        values += [("open", about, []) for about in (PAIR, KEPT, None, Equal())]
        for value in values:
            self.assertIs(is_claim(value), False, repr(value))
            for action in BY_CLAIM:
                wrong = raised(action, value)
                self.assertEqual(wrong[0], InvalidClaim, repr(value))
                self.assertIs(wrong[1]["value"], value)


class Papers(unittest.TestCase):
    def test_their_kinds(self):
        kinds = [list, tuple, Layout, list, tuple, list, list, tuple, tuple, list]
        self.assertEqual([type(paper_of(claim)) for claim in TRUE], kinds)
        self.assertEqual(paper_of(("tells", PAIR)), verdicts(PAIR))
        self.assertEqual(paper_of(("records", KEPT_PAIR)), ([1], [2]))
        found = paper_of(("power", KEPT, 4))
        self.assertEqual((found.thing, found.hands, tells(found)), (KEPT, 4, True))
        self.assertIn(paper_of(("endless", KEPT)), endless(KEPT))

    def test_lists_and_tuples_in_each_others_place(self):
        for claim in TRUE:
            paper = paper_of(claim)
            stays = claim[0] in ("blotted", "no power", "not recording", "wrong with falls", "tells", "wrong", "open",
                                 "records")
            if stays:
                self.assertIs(is_paper(claim, in_tuples(paper)), True, claim[0])
            if claim[0] in ("blotted", "endless", "records", "not recording"):
                self.assertIs(is_paper(claim, list(paper)), False, claim[0])
            if claim[0] in ("no power", "wrong with falls"):
                self.assertIs(is_paper(claim, in_lists(paper)), False, claim[0])

    def test_those_of_other_claims(self):
        for claim in TRUE + FALSE:
            for other in TRUE:
                if claim[0] != other[0]:
                    self.assertIs(is_paper(claim, paper_of(other)), False, (claim[0], other[0]))

    def test_any_value(self):
        values = NO_LISTS + NO_INTEGERS + [[], (), [[]], ((), ()), [None], (None,), (None, None), [{}], [{}, {}], PAIR,
                                           RACE, KEPT, [Equal()] * 2, (Equal(),) * 2, (Equal(),) * 3, Layout]
        for claim in FALSE:
            for value in values + [paper_of(other) for other in TRUE]:
                self.assertIs(is_paper(claim, value), False, (claim[0], repr(value)))
        for claim in TRUE:
            for value in values:
                if not (claim[0] == "power" and value is PAIR):
                    self.assertIs(is_paper(claim, value), False, (claim[0], repr(value)))

    def test_tells(self):
        right = verdicts(PAIR)
        self.assertEqual(right, [{(0, 1): 0, (1, 1): 1}, {(0, 1): 1, (1, 1): 0}])
        claim = ("tells", PAIR)
        self.assertIs(is_paper(claim, [{(1, 1): 1, (0, 1): 0}, right[1]]), True)
        for first in ({(0, 1): 0}, {(0, 1): 0, (1, 1): 0}, {(0, 1): 0, (1, 1): 1, (2, 1): 0}, {(0, 1): 0, (1, 0): 1},
                      {(0, 1): False, (1, 1): True}, {(0, 1): 0, (1, True): 1}, {(False, 1): 0, (1, 1): 1}, right[1],
                      {(0, 1): 0, (1, 1): 2}, {(0, 1): 0, (1, 1): "1"}, {0: 0, 1: 1}, {(0, 1, 0): 0, (1, 1): 1}, [0, 1],
                      {(0, 1): [0], (1, 1): [1]}, None, Equal(), {(0, 1): Equal(), (1, 1): 1}, {(0, 1): None, (1, 1): 1},
                      [((0, 1), 0), ((1, 1), 1)], {Equal(): 0, (1, 1): 1}):
            self.assertIs(is_paper(claim, [first, right[1]]), False, repr(first))
        for value in (right[:1], right + right, right[::-1], {0: right[0], 1: right[1]}, verdicts(KEPT_PAIR)):
            self.assertIs(is_paper(claim, value), False, repr(value))

    def test_power(self):
        for layout in telling_layouts(KEPT, 3):
            self.assertIs(is_paper(("power", KEPT, 3), layout), True)
            self.assertIs(is_paper(("power", KEPT, 3), ~layout), True)
            self.assertIs(is_paper(("power", KEPT, 4), layout), False)
            self.assertIs(is_paper(("power", KEPT, 2), layout), False)
            self.assertIs(is_paper(("power", switch(), 3), layout), False)
        other = KEPT.renamed({"x": "z"})
        self.assertIs(is_paper(("power", KEPT, 2), Layout(other, 0, ["z"], ["y"])), False)
        self.assertIs(is_paper(("power", KEPT, 3), Layout(KEPT, 0, ["x"], ["x", "y"])), False)
        self.assertIs(is_paper(("power", KEPT, 2), [KEPT_PAIR]), False)

    def test_no_power(self):
        claim = ("no power", switch(), 3)
        paper = bars(switch(), 3)
        for value in (paper, tuple(paper), paper[::-1], paper + paper[:1]):
            self.assertIs(is_paper(claim, value), True)
        for value in ([], paper[1:] if len(paper) == 1 else [], paper + [None], [list(bar) for bar in paper], paper[0],
                      bars(box(["x"]), 3), [(layout, None) for layout, _ in paper]):
            self.assertIs(is_paper(claim, value), False, repr(value))
        self.assertIs(is_paper(("no power", switch(), 2), paper), False)

    def test_endless(self):
        claim = ("endless", KEPT)
        self.assertIs(is_paper(claim, (0, "x", "y")), True)
        self.assertIs(is_paper(claim, (0, "y", "x")), True)
        for value in ((0, "x", "x"), (1, "x", "y"), (False, "x", "y"), (0, "x"), (0, "x", "y", "y"), [0, "x", "y"], (0, "x", "z"),
                      (0, "X", "y"), (3, "x", "y"), (-1, "x", "y"), (None, "x", "y"), (0, None, "y"), (0, "x", None),
                      (0, ["x"], "y"), (0, Equal(), Equal()), (Equal(), "x", "y"), ("x", "y", 0)):
            self.assertIs(is_paper(claim, value), False, repr(value))

    def test_wrong(self):
        for weaving, walk in weaver.all_weavings(WRONG):
            self.assertIs(is_paper(("wrong", WRONG), weaving), walk.bad)
            self.assertIs(is_paper(("wrong", RACE), weaving), False)
        self.assertIs(is_paper(("wrong", WRONG), [False, True]), False)
        for value in ([0, ("fall", 0), 0], [0, ("fall", 0), 1]):
            self.assertIs(is_paper(("wrong", RACE), value), False)

    def test_open(self):
        claim = ("open", RACE, [])
        for value in ([[0, 1], [1, 0]], [[1, 0], [0, 1]], ([0, 1], (1, 0)), ((0, 1), (1, 0))):
            self.assertIs(is_paper(claim, value), True, repr(value))
        for value in ([[0, 1], [0, 1]], [[0], [1]], [[0, 1], [1]], [[0, 1]], [[0, 1], [1, 0], [1, 0]], [[0, 1], [1, 1]], [0, 1],
                      [[0, 1], [True, False]], [[False, True], [1, 0]], [[0, 1], None], {0: [0, 1], 1: [1, 0]}, [[], []],
                      [[0, 1], [1, 0, 0]], [[0, 1], Equal()], [{0: 0, 1: 1}, [1, 0]], [[0, 1], "10"]):
            self.assertIs(is_paper(claim, value), False, repr(value))
        for weaving in ([0], [1], [0, 1]):
            self.assertIs(is_paper(("open", RACE, weaving), [[0, 1], [1, 0]]), False)

    def test_open_behind_some_steps(self):
        program = settle(KEPT, 2)
        for weaving in ([], (0, 1)):
            claim = ("open", program, weaving)
            if is_true(claim):
                one, other = paper_of(claim)
                for told in (one, other):
                    self.assertEqual((can_step(program, told), told[:len(weaving)]), ([], list(weaving)))
                self.assertNotEqual(set(named(program, one).values()), set(named(program, other).values()))
        three = settle(KEPT, 3)
        weaving = [1, 1]
        one, other = paper_of(("open", three, weaving))
        self.assertIs(is_paper(("open", three, weaving), (tuple(one), other)), True)
        self.assertIs(is_paper(("open", three, [1]), [one, other]), True)
        self.assertIs(is_paper(("open", three, [2]), [one, other]), False)
        self.assertIs(is_paper(("open", three, weaving), [one[:-1], other]), False)

    def test_open_of_a_program_that_is_not_right(self):
        self.assertIs(is_paper(("open", WRONG, []), [[1, 0], [0, 1]]), False)

    def test_records(self):
        claim = ("records", KEPT_PAIR)
        for value in (([1], [2]), ((1,), (2,)), ((1,), [2])):
            self.assertIs(is_paper(claim, value), True, repr(value))
        for value in ([[1], [2]], ([2], [1]), ([1], [2], []), ([1],), ([True], [2]), ([1, 1], [2]), ([1], [2, 2]), ([1], []),
                      (1, 2), ({1: 1}, [2]), ([1], None), ([1], Equal()), ([1], [Equal()]), ([1], "2"), (["1"], [2])):
            self.assertIs(is_paper(claim, value), False, repr(value))
        several = Layout(ladder(2), 0, ["left"], ["right"])
        self.assertEqual(paper_of(("records", several)), ([1, 2], [3, 4]))
        self.assertIs(is_paper(("records", several), ([2, 1], [3, 4])), False)
        self.assertIs(is_paper(("records", PAIR), (PAIR.ends(0), PAIR.ends(1))), False)

    def test_not_recording(self):
        claim = ("not recording", PAIR)
        for value in (([0], [1]), ((0, 1), [1, 0])):
            self.assertIs(is_paper(claim, value), True)
        for value in ([[0], [1]], ([1], [0]), ([0], None), ([False], [1]), ([0], [True])):
            self.assertIs(is_paper(claim, value), False)

    def test_wrong_with_falls(self):
        claim = ("wrong with falls", RACE)
        for value in ([0, ("fall", 0), 0], (1, ("fall", 1), 1), [0, 1, ("fall", 0), ("fall", 1), 0]):
            self.assertIs(is_paper(claim, value), True)
        for value in ([0, ["fall", 0], 0], [0, 1], [False, ("fall", 0), 0], [0, ("fall", False), 0], []):
            self.assertIs(is_paper(claim, value), False)

    def test_what_was_passed_and_told_can_be_changed(self):
        weaving = []
        claim = ("open", RACE, weaving)
        paper = paper_of(claim)
        paper[0].append(7)
        paper.clear()
        self.assertEqual((weaving, is_paper(claim, paper_of(claim))), ([], True))
        for claim in TRUE:
            paper = paper_of(claim)
            if isinstance(paper, list):
                paper.append(7)
                self.assertIs(is_paper(claim, paper_of(claim)), True)
                self.assertIs(is_paper(claim, paper), False)


if __name__ == "__main__":
    unittest.main()
