"""The guarantees of point 4, over things of many kinds: told or barred, dropping, endless, made, read off, together."""

import unittest

from settlesfirst.building import is_made_of, program_of, settle, settle_by
from settlesfirst.claims import is_paper, is_true, paper_of
from settlesfirst.falls import (
    endless_with_falls, is_right_with_falls, power_with_falls, program_with_falls, recording, records,
)
from settlesfirst.layouts import Layout
from settlesfirst.makers import box, counter, keep, ladder, swap
from settlesfirst.places import critical, is_critical, layout_at
from settlesfirst.power import are_bars, bars, endless, first_layout, is_endless, power, telling_layouts
from settlesfirst.programs import Program
from settlesfirst.telling import tells
from settlesfirst.texts import read_layout, read_program, read_thing, text_of
from settlesfirst.weavings import is_right
from tests import weaver
from tests.values import some_things, switch

KEPT = keep(["x", "y"])


def some(many=30):
    return some_things(many, 91, most_states=5) + [
        switch(), KEPT, box(["x", "y"]), swap(["x", "y"]), counter(1), counter(2), counter(3), ladder(2), ladder(3),
        ladder(4), keep(["x", "y", "z"]), KEPT | switch(), box(["x"]) | counter(2)]


class Guarantees(unittest.TestCase):
    def test_told_or_barred(self):
        for thing in some():
            for number in (2, 3, 4):
                found = bars(thing, number)
                self.assertNotEqual(first_layout(thing, number) is None, found is None)
                self.assertNotEqual(is_true(("power", thing, number)), is_true(("no power", thing, number)))
                if found is None:
                    layout = first_layout(thing, number)
                    self.assertIs(are_bars(thing, number, [(layout, None)]), False)
                else:
                    self.assertIs(are_bars(thing, number, found), True)

    def test_dropping(self):
        for thing in some():
            for number in (3, 4):
                for layout in telling_layouts(thing, number):
                    for hand in range(number):
                        if layout.team(hand) == 0 and len(layout.first) > 1 or layout.team(hand) and len(layout.second) > 1:
                            self.assertTrue(tells(layout.without(hand)))
                            self.assertTrue(records(layout.without(hand)) or not records(layout))

    def test_endless(self):
        for thing in some(60):
            self.assertEqual(is_endless(thing), bool(endless(thing)))
            if is_endless(thing):
                self.assertEqual(power(thing), 4)
                state, one, other = endless(thing)[0]
                for many in (1, 2, 3, 4):
                    self.assertTrue(tells(Layout(thing, state, [one], [other] * many)))
            for state, one, other in endless_with_falls(thing):
                self.assertIn((state, one, other), endless(thing))
                for many in (1, 2, 3, 4):
                    self.assertTrue(records(Layout(thing, state, [one], [other] * many)))

    def test_made_and_read_off(self):
        for thing in some():
            for number in range(2, power(thing) + 1):
                program = program_of(first_layout(thing, number))
                self.assertTrue(is_right(program))
                self.assertTrue(is_made_of(program, [thing]))
                weaving = critical(program)
                self.assertTrue(is_critical(program, weaving))
                _, layout, _ = layout_at(program, weaving)
                self.assertEqual((layout.thing, layout.hands, tells(layout)), (thing, number, True))

    def test_made_with_falls(self):
        for thing in some():
            for number in range(2, min(power_with_falls(thing), 3) + 1):
                for layout in recording(thing, number)[:2]:
                    program = program_with_falls(layout)
                    self.assertTrue(is_right_with_falls(program))
                    self.assertTrue(is_made_of(program, [thing]))
                    self.assertTrue(tells(layout_at(program, critical(program))[1]))

    def test_read_off_of_programs_that_mix_things(self):
        for program in weaver.some_right_programs(25, 33):
            _, layout, _ = layout_at(program, critical(program))
            self.assertTrue(tells(layout))
            self.assertIn(layout.thing, [thing for thing, _ in program.things])
            self.assertIsNotNone(settle_by([thing for thing, _ in program.things], program.hands))

    def test_together(self):
        things = some(12)
        for one, other in zip(things, things[1:]):
            for number in (2, 3, 4):
                either = settle(one, number) is not None or settle(other, number) is not None
                self.assertEqual(settle_by([one, other], number) is not None, either)
                if not set(one.deeds) & set(other.deeds) and one.states * other.states < 30:
                    self.assertEqual(settle(one | other, number) is not None, either)

    def test_checked(self):
        for thing in some(10):
            for number in (2, 3, 4):
                for claim in (("power", thing, number), ("no power", thing, number)):
                    self.assertIs(is_paper(claim, paper_of(claim)), is_true(claim))


class Whole(unittest.TestCase):
    def test_a_call_that_is_repeated(self):
        race = settle(KEPT, 2)
        for action in (lambda: paper_of(("no power", switch(), 3)), lambda: critical(race), lambda: text_of(race),
                       lambda: recording(KEPT, 3), lambda: layout_at(race, critical(race)), lambda: endless(KEPT)):
            self.assertEqual(action(), action())

    def test_texts_of_all_that_is_built(self):
        for number in (2, 3, 4):
            program = settle(KEPT, number)
            self.assertEqual(read_program(text_of(program)), program)
            layout = first_layout(KEPT, number)
            self.assertEqual((read_layout(text_of(layout)), read_thing(text_of(layout.thing))), (layout, KEPT))

    def test_built_programs_are_programs_like_others(self):
        program = settle(KEPT, 3)
        again = Program(program.things, [program.script(hand) for hand in range(3)])
        self.assertEqual((again, is_right(again)), (program, True))


if __name__ == "__main__":
    unittest.main()
