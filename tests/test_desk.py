"""Desks: what changes them, what is taken back, commands, trials."""

import unittest

from settlesfirst.desk import Desk, Trial, tried
from settlesfirst.errors import (
    CommandFailed, InvalidCommand, InvalidDeed, InvalidEntry, InvalidNames, InvalidRows, InvalidState, LastOne,
    NothingToUndo, SharedDeed, TooMany,
)
from settlesfirst.falls import power_with_falls, records
from settlesfirst.layouts import Layout
from settlesfirst.makers import box, counter, keep, ladder, swap
from settlesfirst.power import is_endless, most, power
from settlesfirst.telling import tells
from settlesfirst.things import Thing
from tests.values import NO_INTEGERS, NO_LISTS, NO_NAMES, Equal, raised, some_things, switch

KEPT = keep(["x", "y"])
BROKEN = Thing(["set"], [[(0, 1)], [(0, 1)]])
NO_ENTRIES = [None, True, 0, "", "01", [], [0, 0], (), (0,), (0, 0, 0), {}, {0: 0}, {0, 1}, Equal(), object(), KEPT,
              (10, 0), (-1, 0), (0, 2), (0, -1), (True, 0), (0, True), (False, 0), (0, False), ("0", 0), (0, "0"),
              (None, 0), (0, None), (0, [0]), (Equal(), 0), (0, Equal()), (0, 10 ** 29), (10 ** 29, 0)]


def put_by_subscript(desk, state, deed, entry):
    desk[state, deed] = entry


def widened(thing, deed, entries):
    return Thing(thing.deeds + [deed], [row + [entry] for row, entry in zip(thing.rows(), entries)])


def subtract(desk, deed):
    desk -= deed
    return desk


def add(desk, other):
    desk += other
    return desk


def whole(desk):
    """All that a desk is: the thing, and the things that come when all is taken back, by another desk's trial."""
    found = [desk.thing]
    with Trial(desk) as held:
        while len(held):
            held.undo()
            found.append(held.thing)
    return found


CHANGES = [
    lambda desk: put_by_subscript(desk, 0, "x", (1, 1)), lambda desk: desk.put(0, "x", (1, 1)),
    lambda desk: add(desk, switch()), lambda desk: subtract(desk, "y"), lambda desk: desk.widen("z", [(0, 0)] * 3),
    lambda desk: setattr(desk, "thing", switch()), lambda desk: desk.do("set 1 y 2 2"), lambda desk: desk.do("drop x"),
]
# The same thing stands there behind each of these.
IDLE = [
    lambda desk: put_by_subscript(desk, 0, "x", desk[0, "x"]), lambda desk: desk.put(0, "x", (0, 1)),
    lambda desk: setattr(desk, "thing", KEPT), lambda desk: setattr(desk, "thing", desk.thing),
    lambda desk: desk.do("set 0 x 0 1"),
]


class Things(unittest.TestCase):
    def test_ordinary(self):
        desk = Desk(thing=switch())
        self.assertEqual((desk.thing, desk[0, "set"], desk[1, "set"], len(desk)), (switch(), (0, 1), (1, 1), 0))
        self.assertEqual(("set" in desk, "put" in desk), (True, False))
        desk.thing = KEPT
        self.assertEqual((desk.thing, len(desk), "x" in desk, "set" in desk), (KEPT, 1, True, False))

    def test_any_value_in(self):
        desk = Desk(KEPT)
        self.assertIs("x" in desk, True)
        for value in NO_NAMES + ["z", KEPT, desk]:
            self.assertIs(value in desk, False, repr(value))

    def test_it_is_not_iterated_over(self):
        self.assertRaises(TypeError, iter, Desk(KEPT))

    def test_setting_an_item(self):
        desk = Desk(switch())
        desk[1, "set"] = (0, 1)
        self.assertEqual((desk.thing, desk[1, "set"], len(desk)), (BROKEN, (0, 1), 1))
        self.assertIsNone(desk.put(entry=(9, 0), deed="set", state=0))
        self.assertEqual((desk.thing, len(desk)), (Thing(["set"], [[(9, 0)], [(0, 1)]]), 2))

    def test_an_item_that_is_not_there(self):
        desk = Desk(KEPT)
        for state in NO_INTEGERS + [-1, 3, 10 ** 29]:
            for action in (lambda desk: desk[state, "x"], lambda desk: desk[state, None],
                           lambda desk: put_by_subscript(desk, state, None, None),
                           lambda desk: desk.put(state, "z", (0, 0))):
                wrong = raised(action, desk)
                self.assertEqual(wrong[0], InvalidState, repr(state))
                self.assertIs(wrong[1]["value"], state)
        for deed in NO_NAMES + ["z"]:
            for action in (lambda desk: desk[0, deed], lambda desk: put_by_subscript(desk, 0, deed, None),
                           lambda desk: desk.put(0, deed, (0, 0))):
                wrong = raised(action, desk)
                self.assertEqual(wrong[0], InvalidDeed, repr(deed))
                self.assertIs(wrong[1]["value"], deed)
        self.assertEqual(whole(desk), [KEPT])

    def test_no_entry(self):
        desk = Desk(switch())
        for entry in NO_ENTRIES:
            for action in (put_by_subscript, Desk.put):
                wrong = raised(action, desk, 0, "set", entry)
                self.assertEqual(wrong[0], InvalidEntry, repr(entry))
                self.assertIs(wrong[1]["value"], entry)
        self.assertEqual(whole(desk), [switch()])

    def test_beside_each_other(self):
        desk = held = Desk(switch())
        desk += KEPT
        self.assertIs(desk, held)
        self.assertEqual((desk.thing, len(desk)), (switch() | KEPT, 1))
        for other in (box(["set"]), keep(["z", "set", "x"]), switch(), KEPT):
            first = [deed for deed in desk.thing.deeds if deed in other][0]
            self.assertEqual(raised(add, desk, other), (SharedDeed, {"value": first}))
        self.assertEqual(whole(desk), [switch() | KEPT, switch()])
        desk += ladder(4)
        self.assertEqual((desk.thing.states, len(desk.thing.deeds)), (54, 5))

    def test_without_a_deed(self):
        desk = held = Desk(keep(["x", "y", "z"]))
        desk -= "y"
        self.assertIs(desk, held)
        rows = [[(0, 1), (0, 3)], [(0, 1)] * 2, [(0, 2)] * 2, [(0, 3)] * 2]
        self.assertEqual(desk.thing, Thing(["x", "z"], rows))
        for deed in NO_NAMES + ["y", "w"]:
            wrong = raised(subtract, desk, deed)
            self.assertEqual(wrong[0], InvalidDeed, repr(deed))
            self.assertIs(wrong[1]["value"], deed)
        desk -= "x"
        self.assertEqual((desk.thing.deeds, desk.thing.states, len(desk)), (["z"], 4, 2))
        self.assertEqual(raised(subtract, desk, "z"), (LastOne, {"value": "z"}))
        self.assertEqual(raised(subtract, desk, "x"), (InvalidDeed, {"value": "x"}))
        self.assertEqual((desk.thing.deeds, len(desk)), (["z"], 2))

    def test_widen(self):
        desk = Desk(switch())
        self.assertIsNone(desk.widen("clear", [(0, 0), (1, 0)]))
        self.assertEqual(desk.thing, Thing(["set", "clear"], [[(0, 1), (0, 0)], [(1, 1), (1, 0)]]))
        self.assertIsNone(desk.widen(entries=((9, 1), (9, 1)), deed="z"))
        self.assertEqual((desk.thing.deeds, desk[1, "z"], len(desk)), (["set", "clear", "z"], (9, 1), 2))

    def test_a_wrong_deed_more(self):
        desk = Desk(KEPT)
        for deed in NO_NAMES + ["x", "y"]:
            for entries in ([(0, 0)] * 3, [], None):
                wrong = raised(desk.widen, deed, entries)
                self.assertEqual(wrong[0], InvalidNames, repr(deed))
                self.assertIs(wrong[1]["value"], deed)
        for entries in NO_LISTS + [[], (), [(0, 0)] * 2, [(0, 0)] * 4, [None]]:
            self.assertEqual(raised(desk.widen, "z", entries), (InvalidRows, {"position": None}), repr(entries))
        for entry in NO_ENTRIES:
            if not isinstance(entry, tuple) or entry != (0, 2):
                self.assertEqual(raised(desk.widen, "z", [entry, (0, 0), 7]), (InvalidRows, {"position": 0}), repr(entry))
                wrong = raised(desk.widen, "z", ((0, 0), (0, 2), entry))
                self.assertEqual(wrong, (InvalidRows, {"position": 2}), repr(entry))
        self.assertEqual(raised(desk.widen, "z", [(0, 0), (0, 3), (0, 0)]), (InvalidRows, {"position": 1}))
        self.assertEqual(whole(desk), [KEPT])

    def test_too_many_deeds(self):
        for thing in (keep(["a", "b", "c", "d"]), keep(["a", "b", "c"]) | box(["d", "e"])):
            desk = Desk(thing)
            wrong = raised(desk.widen, "z", [(0, 0)] * thing.states)
            self.assertEqual(wrong, (TooMany, {"what": "deeds", "limit": 4}))
            self.assertEqual(raised(desk.widen, "a", [(0, 0)] * thing.states)[0], InvalidNames)
            self.assertEqual(raised(desk.widen, "z", [(0, 0)])[0], InvalidRows)
            self.assertEqual(whole(desk), [thing])
        desk = Desk(ladder(4))
        desk.widen("z", [(0, 8)] * 9)
        desk.widen("w", [(9, 0)] * 9)
        self.assertEqual((desk.thing.deeds, desk[3, "z"]), (["left", "right", "z", "w"], (0, 8)))

    def test_items_of_things_that_the_package_made(self):
        desk = Desk(ladder(4))
        desk[8, "left"] = (9, 8)
        desk -= "right"
        self.assertEqual((desk[8, "left"], desk.thing.states), ((9, 8), 9))

    def test_what_was_passed_can_be_changed(self):
        entries = [(0, 0), (1, 0)]
        desk = Desk(switch())
        desk.widen("z", entries)
        entries[0] = (7, 7)
        entries.clear()
        desk.thing.deeds.clear()
        desk.thing.rows()[0].clear()
        self.assertEqual(desk.thing, widened(switch(), "z", [(0, 0), (1, 0)]))

    def test_things_do_not_change(self):
        thing = keep(["x", "y"])
        for change in CHANGES + IDLE:
            desk = Desk(thing)
            change(desk)
            self.assertEqual(thing, KEPT)


class Undo(unittest.TestCase):
    def test_behind_each_kind_of_change(self):
        for change in CHANGES + IDLE:
            desk = Desk(KEPT)
            change(desk)
            self.assertEqual((len(desk), desk.thing != KEPT), (1, change in CHANGES))
            self.assertIsNone(desk.undo())
            self.assertEqual((len(desk), desk.thing), (0, KEPT))
            self.assertEqual(raised(desk.undo), (NothingToUndo, {}))
            self.assertEqual((len(desk), desk.thing), (0, KEPT))

    def test_one_behind_the_other(self):
        desk = Desk(KEPT)
        things = [KEPT]
        for change in (CHANGES[0], CHANGES[4], IDLE[3], CHANGES[3], CHANGES[2], CHANGES[5]):
            change(desk)
            things.append(desk.thing)
            self.assertEqual(len(desk), len(things) - 1)
        self.assertEqual(whole(desk), things[::-1])
        while len(desk):
            self.assertEqual(desk.thing, things.pop())
            desk.undo()
        self.assertEqual((desk.thing, things), (KEPT, [KEPT]))

    def test_what_was_taken_back_is_no_change(self):
        desk = Desk(switch())
        desk.put(0, "set", (5, 0))
        desk.undo()
        desk.put(0, "set", (6, 0))
        self.assertEqual((len(desk), whole(desk)), (1, [Thing(["set"], [[(6, 0)], [(1, 1)]]), switch()]))

    def test_many(self):
        desk = Desk(switch())
        for number in range(200):
            desk.put(0, "set", (number // 20, 0))
        for number in range(99, -1, -1):
            desk.undo()
        self.assertEqual((len(desk), desk[0, "set"]), (100, (4, 0)))

    def test_two_desks_go_on_beside_each_other(self):
        one, other = Desk(KEPT), Desk(KEPT)
        one.put(0, "x", (5, 0))
        self.assertEqual((other.thing, len(other)), (KEPT, 0))
        other.do("drop x")
        one.undo()
        self.assertEqual((one.thing, other.thing.deeds, len(one), len(other)), (KEPT, ["y"], 0, 1))


class Commands(unittest.TestCase):
    def test_questions(self):
        for thing in [switch(), KEPT, ladder(2), ladder(4), box(["x", "y"]), swap(["x", "y"]), counter(3),
                      KEPT | switch()] + some_things(15, 8):
            desk = Desk(thing)
            self.assertEqual(desk.do("power"), str(power(thing)))
            self.assertEqual(desk.do(command="falls"), str(power_with_falls(thing)))
            self.assertEqual(desk.do("endless"), "yes" if is_endless(thing) else "no")
            for state in range(min(thing.states, 4)):
                for one in thing.deeds:
                    for other in thing.deeds:
                        found = most(thing, state, one, other)
                        self.assertEqual(desk.do(f"most {state} {one} {other}"), "all" if found is None else str(found))
                        for more in ("", " " + one):
                            layout = Layout(thing, state, [one], [other] + more.split())
                            words = f"{state} {one} / {other}{more}"
                            self.assertEqual(desk.do("tells " + words), "yes" if tells(layout) else "no")
                            self.assertEqual(desk.do("records " + words), "yes" if records(layout) else "no")
            self.assertEqual(len(desk), 0)

    def test_ordinary(self):
        desk = Desk(KEPT)
        told = [desk.do(command) for command in ("power", "falls", "endless", "most 0 x y", "most 0 x x", "tells 0 x / y")]
        self.assertEqual(told, ["4", "4", "yes", "all", "0", "yes"])
        self.assertEqual([desk.do("tells 0 x / y x"), desk.do("records 0 x x / y y y"), desk.do("records 1 x / y")],
                         ["no", "yes", "no"])
        self.assertEqual((Desk(switch()).do("most 0 set set"), Desk(switch()).do("endless")), ("1", "no"))

    def test_deeds_in_any_sequence(self):
        desk = Desk(keep(["x", "y", "z"]))
        self.assertEqual([desk.do("tells 0 y x / z z"), desk.do("tells 0 z / y x y x"), desk.do("records 0 z y / x")],
                         ["yes", "yes", "yes"])

    def test_changes(self):
        desk = Desk(KEPT)
        self.assertEqual((desk.do("set 0 x 9 2"), desk[0, "x"], len(desk)), ("done", (9, 2), 1))
        self.assertEqual((desk.do("drop y"), desk.thing.deeds, len(desk)), ("done", ["x"], 2))
        self.assertEqual((desk.do("undo"), desk.thing.deeds, len(desk)), ("done", ["x", "y"], 1))
        self.assertEqual((desk.do("undo"), desk.thing), ("done", KEPT))
        self.assertEqual(raised(desk.do, "undo"), (NothingToUndo, {}))
        desk.do("drop x")
        self.assertEqual(raised(desk.do, "drop y"), (LastOne, {"value": "y"}))
        self.assertEqual(len(desk), 1)

    def test_no_command(self):
        desk = Desk(KEPT)
        ordinary = ["power", "falls", "endless", "tells 0 x / y", "records 0 x / y", "most 0 x y", "set 0 x 0 1", "drop x",
                    "undo"]
        for command in ordinary:
            for bent in (" " + command, command + " ", command + "\n", "\n" + command, command.upper(), command + " z",
                         command + " 0", command[1:], command + "\t", command.title(), command + " /"):
                self.assertEqual(raised(desk.do, bent), (InvalidCommand, {"value": bent}))
            words = command.split()
            for at in range(1, len(words)):
                for bent in (" ".join(words[:at] + [""] + words[at:]), " ".join(words[:at]), "\n".join(words),
                             " ".join(words[:at] + words[at + 1:]), " ".join(words[:at] + ["?"] + words[at + 1:])):
                    self.assertEqual(raised(desk.do, bent), (InvalidCommand, {"value": bent}))
        self.assertEqual(whole(desk), [KEPT])

    def test_wrong_words(self):
        desk = Desk(KEPT)
        commands = ["", " ", "x", "tells", "tells 0", "tells 0 /", "tells 0 x /", "tells 0 / y", "tells 0 x y", "tells 0 x y / ",
                    "tells 0 x / y / x", "tells 0 x // y", "tells 0 x/y", "tells 0 / x y", "tells 0 x y /", "tells 3 x / y",
                    "tells 00 x / y", "tells -1 x / y", "tells x / y", "tells 0 z / y", "tells 0 x / z", "tells 0 x / X",
                    "tells 0 x x x / y y y", "tells 0 x / y y y y y", "tells 0 x x x x x / y", "records 0 x / y y y y y",
                    "most 0 x", "most 3 x y", "most 0 z y", "most 0 x z", "most 01 x y", "most x y 0", "most 0 x / y",
                    "set 0 x 10 1", "set 0 x 0 3", "set 3 x 0 1", "set 0 z 0 1", "set 0 x 00 1", "set 0 x 0 01", "set 0 x -1 0",
                    "set 0 x 0 -1", "set 0 x 1", "set 0 x 1 1 1", "set 0 x (0, 1)", "drop", "drop z", "drop x y", "drop 0",
                    "power 4", "undo 1", "put 0 x 0 1", "widen z", "set " + "9" * 6000 + " x 0 1", "set 0 x 0 " + "1" * 6000,
                    "most " + "0" * 6000 + " x y"]
        for command in commands:
            self.assertEqual(raised(desk.do, command), (InvalidCommand, {"value": command}))
        for value in [None, True, 0, b"power", ["power"], ("power",), {}, {"power"}, Equal(), KEPT, desk, object(), str]:
            wrong = raised(desk.do, value)
            self.assertEqual(wrong[0], InvalidCommand, repr(value))
            self.assertIs(wrong[1]["value"], value)
        self.assertEqual(whole(desk), [KEPT])

    def test_two_to_five_hands(self):
        desk = Desk(KEPT)
        for command in ("tells 0 x / y", "tells 0 x x x x / y", "records 0 x / y y y y", "records 0 x x / y y y"):
            self.assertEqual(desk.do(command), "yes")

    def test_the_thing_as_it_stands(self):
        desk = Desk(KEPT)
        desk.do("drop x")
        for command in ("tells 0 x / y", "most 0 x y", "set 0 x 0 0", "drop x", "records 0 y / x"):
            self.assertEqual(raised(desk.do, command), (InvalidCommand, {"value": command}))
        desk.widen("z", [(0, 0)] * 3)
        self.assertEqual(desk.do("tells 0 z / y"), "no")
        desk += counter(3)
        self.assertEqual((desk.do("most 8 add add"), desk.do("set 8 add 7 8")), ("1", "done"))
        self.assertEqual((desk[8, "add"], raised(desk.do, "set 9 add 7 8")[0]), ((7, 8), InvalidCommand))


class All(unittest.TestCase):
    def test_ordinary(self):
        desk = Desk(switch())
        self.assertEqual(desk.do_all("power", "most 0 set set", "set 1 set 0 1", "power"), ["2", "1", "done", "1"])
        self.assertEqual((len(desk), desk.thing), (1, BROKEN))
        self.assertEqual((desk.do_all(), desk.do_all("undo")), ([], ["done"]))
        self.assertEqual(whole(desk), [switch()])

    def test_each_change_can_be_taken_back_alone(self):
        desk = Desk(KEPT)
        desk.do_all("set 0 x 1 1", "set 0 x 2 2", "drop y")
        self.assertEqual(len(desk), 3)
        desk.undo()
        self.assertEqual((desk.thing.deeds, desk[0, "x"]), (["x", "y"], (2, 2)))

    def test_a_failing_command_at_each_place(self):
        good = ["set 0 x 1 1", "undo", "undo", "drop y", "power"]
        for failing, kind in (("drop z", InvalidCommand), (None, InvalidCommand), ("undo 1", InvalidCommand)):
            for place in range(len(good) + 1):
                desk = Desk(KEPT)
                desk.put(1, "y", (9, 0))
                before = whole(desk)
                with self.assertRaises(CommandFailed) as caught:
                    desk.do_all(*(good[:place] + [failing] + good[place:]))
                self.assertEqual((vars(caught.exception), type(caught.exception.__cause__)), ({"position": place}, kind))
                self.assertEqual(caught.exception.__cause__.value, failing)
                self.assertEqual(whole(desk), before)

    def test_errors_of_what_commands_do(self):
        desk = Desk(KEPT)
        for commands, place, kind in ((("undo",), 0, NothingToUndo), (("drop x", "undo", "undo"), 2, NothingToUndo),
                                      (("drop x", "drop y"), 1, LastOne), (("power", "drop y", "drop x"), 2, LastOne),
                                      (("drop x", "drop x", "undo"), 1, InvalidCommand)):
            with self.assertRaises(CommandFailed) as caught:
                desk.do_all(*commands)
            self.assertEqual((caught.exception.position, type(caught.exception.__cause__)), (place, kind))
            self.assertEqual(whole(desk), [KEPT])

    def test_behind_a_failure_all_goes_on(self):
        desk = Desk(KEPT)
        self.assertEqual(raised(desk.do_all, "drop x", "x")[0], CommandFailed)
        self.assertEqual((desk.do_all("drop x"), len(desk)), (["done"], 1))


class Trials(unittest.TestCase):
    def test_ordinary(self):
        desk = Desk(KEPT)
        desk.put(0, "x", (3, 0))
        before = whole(desk)
        with Trial(desk) as held:
            self.assertIs(held, desk)
            held.do("drop x")
            held += switch()
            self.assertEqual((desk.thing.deeds, len(desk)), (["y", "set"], 3))
        self.assertEqual((whole(desk), len(desk)), (before, 1))

    def test_each_change(self):
        for change in CHANGES + IDLE:
            desk = Desk(KEPT)
            desk.thing = KEPT
            with Trial(desk=desk):
                change(desk)
                self.assertEqual(len(desk), 2)
            self.assertEqual(whole(desk), [KEPT, KEPT])

    def test_what_was_taken_back_within(self):
        desk = Desk(KEPT)
        desk.do("drop x")
        before = whole(desk)
        with Trial(desk):
            desk.undo()
            self.assertEqual((desk.thing, len(desk)), (KEPT, 0))
            self.assertEqual(raised(desk.undo), (NothingToUndo, {}))
        self.assertEqual(whole(desk), before)

    def test_left_by_an_error(self):
        for error in (ValueError("x"), InvalidDeed("x"), KeyError("x"), KeyboardInterrupt()):
            desk = Desk(KEPT)
            desk.do("drop x")
            before = whole(desk)
            with self.assertRaises(type(error)) as caught:
                with Trial(desk):
                    desk.undo()
                    desk.put(0, "x", (5, 0))
                    raise error
            self.assertIs(caught.exception, error)
            self.assertEqual(whole(desk), before)
        with self.assertRaises(NothingToUndo):
            with Trial(desk):
                while True:
                    desk.undo()
        self.assertEqual(whole(desk), before)

    def test_trials_within_trials(self):
        desk = Desk(KEPT)
        with Trial(desk):
            desk.do("drop x")
            middle = whole(desk)
            with Trial(desk):
                desk.undo()
                desk.thing = switch()
                with self.assertRaises(ZeroDivisionError):
                    with Trial(desk):
                        desk.thing = counter(3)
                        raise ZeroDivisionError
                self.assertEqual((desk.thing, len(desk)), (switch(), 1))
            self.assertEqual(whole(desk), middle)
        self.assertEqual(whole(desk), [KEPT])

    def test_one_trial_again_and_made_early(self):
        desk = Desk(KEPT)
        trial = Trial(desk)
        desk.do("drop x")
        for thing in (switch(), counter(2)):
            with trial:
                desk.thing = thing
            self.assertEqual((desk.thing.deeds, len(desk)), (["y"], 1))
        desk.undo()
        with trial:
            desk.thing = switch()
        self.assertEqual(whole(desk), [KEPT])

    def test_two_desks(self):
        one, other = Desk(KEPT), Desk(KEPT)
        with Trial(one):
            with Trial(other):
                one.do("drop x")
                other.do("drop y")
            self.assertEqual((whole(other), len(one)), ([KEPT], 1))
        self.assertEqual(whole(one), [KEPT])

    def test_left_by_a_return(self):
        desk = Desk(KEPT)

        def left():
            with Trial(desk) as held:
                held.do("drop x")
                return len(held)

        self.assertEqual((left(), whole(desk)), (1, [KEPT]))

    def test_tried(self):
        desk = Desk(KEPT)
        self.assertEqual(tried(desk, lambda held: [held is desk, held.do("drop x"), held.thing.deeds]),
                         [True, "done", ["y"]])
        self.assertIsNone(tried(action=lambda held: held.widen("z", [(0, 0)] * 3), desk=desk))
        self.assertIs(tried(desk, lambda held: held), desk)
        self.assertEqual(whole(desk), [KEPT])
        self.assertEqual(raised(tried, desk, lambda held: held.do_all("drop x", "drop y"))[0], CommandFailed)
        self.assertEqual(raised(tried, desk, lambda held: [held.do("drop x"), 1 // 0])[0], ZeroDivisionError)
        self.assertEqual(tried(desk, lambda held: tried(held, lambda inner: inner.do("drop y")) + str(len(held))), "done0")
        self.assertEqual(whole(desk), [KEPT])


class FailedCalls(unittest.TestCase):
    def test_a_desk_is_as_it_was(self):
        desk = Desk(KEPT)
        desk.do("set 0 x 4 0")
        before = whole(desk)
        failing = [
            lambda: desk[7, "x"], lambda: put_by_subscript(desk, 0, "x", (0, 7)), lambda: desk.put(0, "z", (0, 0)),
            lambda: add(desk, box(["y"])), lambda: subtract(desk, "z"), lambda: desk.widen("x", []),
            lambda: desk.widen("z", [(0, 0), (0, 1), (0, 7)]), lambda: desk.do("drop z"), lambda: desk.do(None),
            lambda: desk.do_all("undo", "undo"), lambda: desk.do_all("drop x", "drop y"),
        ]
        for action in failing:
            self.assertIsNotNone(raised(action))
            self.assertEqual(whole(desk), before)


if __name__ == "__main__":
    unittest.main()
