"""Texts of things, layouts and programs: each line as it is told, and each line wrong in turn."""

import unittest

from settlesfirst.building import settle
from settlesfirst.errors import InvalidText
from settlesfirst.falls import settle_with_falls
from settlesfirst.layouts import Layout
from settlesfirst.makers import box, counter, keep, ladder, swap
from settlesfirst.programs import Program
from settlesfirst.texts import bytes_of, read_layout, read_program, read_thing, text_of
from settlesfirst.things import Thing
from tests import weaver
from tests.values import Equal, raised, some_things, switch

KEPT = keep(["x", "y"])
PAIR = Layout(switch(), 0, ["set"], ["set"])
MIXED = Layout(keep(["x", "w", "y"]), 2, ["y", "x", "y"], ["w", "x"])
SET = ("do", 0, "set", {0: 1, 1: 2})
RACE = Program([(switch(), 0)], [[SET, ("end", 0), ("end", 1)], [SET, ("end", 1), ("end", 0)]])
LOOKING = Program([(switch(), 1), (KEPT, 2)], [
    [("look", 1, {2: 1, 0: 2}), ("do", 1, "y", {9: 2, 0: 3}), ("end", 1), ("end", 0)],
    [("look", 0, {1: 1}), ("end", 0)],
])
SWITCH_TEXT = "deeds set\nstate 0 1\nstate 1 1\n"
KEPT_TEXT = "deeds x y\nstate 0 1 0 2\nstate 0 1 0 1\nstate 0 2 0 2\n"
PAIR_TEXT = SWITCH_TEXT + "begin 0\nteam set\nteam set\n"
RACE_TEXT = (SWITCH_TEXT + "begin 0\nhand\ndo 0 set 0 1 1 2\nend 0\nend 1\nhand\ndo 0 set 0 1 1 2\nend 1\nend 0\n")
LOOKING_TEXT = (SWITCH_TEXT + "begin 1\n" + KEPT_TEXT + "begin 2\nhand\nlook 1 0 2 2 1\ndo 1 y 0 3 9 2\nend 1\nend 0\n"
                "hand\nlook 0 1 1\nend 0\n")
READERS = [(read_thing, KEPT_TEXT), (read_layout, PAIR_TEXT), (read_program, RACE_TEXT), (read_program, LOOKING_TEXT)]
GREAT = "1" + "0" * 29
HUGE = "9" * 6000
# Words that are no COUNT.
NO_COUNTS = ["", "-1", "+1", "01", "00", "1.", "1_0", "x", "0x1", "True", "1,", "(1)", "*"]


def line_of(text, number):
    return text.split("\n")[number - 1]


def with_line(text, number, line):
    """The text with another line in the place of this one, or more lines."""
    lines = text.split("\n")
    lines[number - 1:number] = [line] if isinstance(line, str) else line
    return "\n".join(lines)


def spoiled_lines(line):
    """Lines that are no line of any text, though they are like this one."""
    return ["", " " + line, line + " ", line.replace(" ", "  ", 1) + " ", line.upper() + " ", line + " /", "x" + line,
            line + "\t", "# " + line, line + " .", "state", "deeds", "begin", "team", "do", "look", "end", "hand hand",
            "end -1", "state x y", "deeds A", "begin x", "team A", "do 0", "look 0", "0", line[1:] or "x"]


class Texts(unittest.TestCase):
    def test_ordinary(self):
        self.assertEqual((text_of(switch()), text_of(KEPT), text_of(PAIR)), (SWITCH_TEXT, KEPT_TEXT, PAIR_TEXT))
        self.assertEqual((text_of(RACE), text_of(entry=LOOKING)), (RACE_TEXT, LOOKING_TEXT))
        self.assertEqual(text_of(MIXED).split("\n")[5:], ["begin 2", "team x y y", "team x w", ""])
        self.assertEqual(text_of(~MIXED).split("\n")[5:], ["begin 2", "team x w", "team x y y", ""])

    def test_bytes(self):
        for entry in (switch(), KEPT, PAIR, MIXED, RACE, LOOKING):
            self.assertEqual(bytes_of(entry), text_of(entry).encode())
        self.assertEqual((type(bytes_of(entry=KEPT)), bytes_of(switch())), (bytes, b"deeds set\nstate 0 1\nstate 1 1\n"))

    def test_there_and_back(self):
        things = some_things(40, 3, most_deeds=4, most_states=8, most_answer=9) + [ladder(3), swap(["a", "b", "c", "d"])]
        for thing in things:
            self.assertEqual(read_thing(text_of(thing)), thing)
            layout = Layout(thing, thing.states - 1, thing.deeds, thing.deeds[:1])
            self.assertEqual((read_layout(text_of(layout)), read_layout(text_of(~layout))), (layout, ~layout))
        programs = weaver.some_programs(40, 5) + weaver.some_programs(10, 6, hands=4) + [
            RACE, LOOKING, settle(KEPT, 4), settle(ladder(3), 3), settle_with_falls(KEPT, 3)]
        for program in programs:
            self.assertEqual(read_program(text_of(program)), program)
        self.assertEqual((read_thing(text=KEPT_TEXT), read_layout(text=PAIR_TEXT)), (KEPT, PAIR))
        self.assertEqual(read_program(text=RACE_TEXT), RACE)

    def test_what_is_read_has_just_this_text(self):
        for reader, text in READERS:
            self.assertEqual(text_of(reader(text)), text)

    def test_the_greatest_that_can_be_read(self):
        thing = Thing(["a", "b", "c", "abcdefgh"], [[(9, 7)] * 4] * 8)
        self.assertEqual(read_thing(text_of(thing)), thing)
        script = [("look", 0, {state: 199 for state in range(8)})]
        script += [("do", 11, "abcdefgh", {answer: number + 1 for answer in range(10)}) for number in range(1, 199)]
        program = Program([(thing, 7)] * 12, [script + [("end", 3)]] * 4)
        self.assertEqual(read_program(text_of(program)), program)


class NoStrings(unittest.TestCase):
    def test_no_string(self):
        for value in [None, True, False, 0, 1, b"", SWITCH_TEXT.encode(), [], [SWITCH_TEXT], (SWITCH_TEXT,), {}, Equal(),
                      {SWITCH_TEXT}, KEPT, PAIR, RACE, object(), str]:
            for reader, _ in READERS:
                self.assertEqual(raised(reader, value), (InvalidText, {"line": None}), repr(value))


class WrongLines(unittest.TestCase):
    def wrong(self, reader, text, line):
        self.assertEqual(raised(reader, text), (InvalidText, {"line": line}), repr(text))

    def test_each_line_wrong_in_turn(self):
        for reader, text in READERS:
            for number in range(1, text.count("\n") + 1):
                for line in spoiled_lines(line_of(text, number)):
                    self.wrong(reader, with_line(text, number, line), number)

    def test_each_line_lacking_in_turn(self):
        # Where all lines are there that must be, a next or a branch of the line that is told here leads nowhere.
        led_nowhere = {KEPT_TEXT: {2: 2, 3: 2}, PAIR_TEXT: {}, RACE_TEXT: {10: 10, 11: 10}, LOOKING_TEXT: {16: 16}}
        for reader, text in READERS:
            lines = text.split("\n")[:-1]
            for many in range(len(lines)):
                left = "".join(line + "\n" for line in lines[:many])
                self.wrong(reader, left, led_nowhere[text].get(many, many + 1))

    def test_a_last_line_without_a_line_feed(self):
        for reader, text in READERS:
            self.wrong(reader, text[:-1], text.count("\n"))
            self.wrong(reader, text + "x", text.count("\n") + 1)
            self.wrong(reader, text + " ", text.count("\n") + 1)

    def test_lines_behind_the_last_one(self):
        for reader, text in READERS:
            for more in ("\n", "x\n", " \n", "begin 0\n", "deeds x\n", "team x\n", "\n\n", "state 0 0\n"):
                self.wrong(reader, text + more, text.count("\n") + 1)
        self.wrong(read_thing, PAIR_TEXT, 4)
        self.wrong(read_layout, RACE_TEXT, 5)
        self.wrong(read_program, PAIR_TEXT, 5)
        self.wrong(read_program, KEPT_TEXT, 5)

    def test_no_lines(self):
        for reader, _ in READERS:
            for text in ("", "\n", " ", "x", "deeds", "\n" + KEPT_TEXT):
                self.wrong(reader, text, 1)

    def test_deeds(self):
        for deeds in ("", "x x", "x y z x", "X", "xy1", "abcdefghi", "a b c d e", "x  y", "x-y", " x", "x "):
            self.wrong(read_thing, "deeds " + deeds + "\nstate 0 0\n", 1)
        self.assertEqual(read_thing("deeds deeds\nstate 0 0\n"), Thing(["deeds"], [[(0, 0)]]))
        self.assertEqual(read_thing("deeds state\nstate 0 0\n"), Thing(["state"], [[(0, 0)]]))

    def test_a_ninth_state(self):
        text = "deeds add\n" + "".join(f"state {state} {(state + 1) % 8}\n" for state in range(8))
        self.assertEqual(read_thing(text), counter(8))
        self.wrong(read_thing, text + "state 0 0\n", 10)
        self.wrong(read_layout, text + "state 0 0\nbegin 0\nteam add\nteam add\n", 10)
        self.wrong(read_program, text + "state 0 0\nbegin 0\n", 10)

    def test_answers_and_nexts(self):
        for words in ("0", "0 1 0", "0 1 1 1", "10 1", "a 1", HUGE + " 1", "1 " + "0" * 30):
            self.wrong(read_thing, "deeds set\nstate 0 1\nstate " + words + "\n", 3)
        for word in NO_COUNTS:
            self.wrong(read_thing, "deeds set\nstate 0 1\nstate 0 " + word + "\n", 3)
            self.wrong(read_thing, "deeds set\nstate 0 1\nstate " + word + " 1\n", 3)

    def test_each_word_of_a_line_wrong_in_turn(self):
        lines = {read_thing: [(KEPT_TEXT, 1), (KEPT_TEXT, 3), ("deeds a b c\nstate 0 0 9 0 1 0\n", 2)],
                 read_layout: [(KEPT_TEXT + "begin 1\nteam x y\nteam x y y\n", number) for number in (3, 5, 6, 7)],
                 read_program: [(LOOKING_TEXT, number) for number in (4, 6, 9, 10, 11, 12, 13, 16, 17)]}
        for reader in lines:
            for text, number in lines[reader]:
                reader(text)
                words = line_of(text, number).split(" ")
                for at in range(len(words)):
                    for word in ("", "00", "X", "-1", words[at] + ".", words[at] + " "):
                        self.wrong(reader, with_line(text, number, " ".join(words[:at] + [word] + words[at + 1:])), number)

    def test_nexts_are_looked_at_behind_all_lines(self):
        for after in ("2", "9", GREAT, HUGE):
            text = "deeds set\nstate 0 " + after + "\nstate 1 1\n"
            self.wrong(read_thing, text, 2)
            self.wrong(read_thing, text + "state\n", 4)
            self.wrong(read_thing, text[:-1], 3)
            layout = text + "begin 0\nteam set\nteam set\n"
            self.wrong(read_layout, layout, 2)
            self.wrong(read_layout, with_line(layout, 6, "team put"), 6)
            program = RACE_TEXT.replace("state 0 1", "state 0 " + after)
            self.wrong(read_program, program, 2)
            self.wrong(read_program, with_line(program, 12, "end x"), 12)
        self.wrong(read_thing, "deeds set\nstate 0 1\nstate 1 2\nstate 0 3\n", 4)
        self.wrong(read_thing, "deeds x y\nstate 0 1 0 1\nstate 0 0 1 2\n", 3)

    def test_begin(self):
        for word in NO_COUNTS + ["2", "0 0", GREAT, HUGE]:
            self.wrong(read_layout, with_line(PAIR_TEXT, 4, "begin " + word), 4)
            self.wrong(read_program, with_line(LOOKING_TEXT, 4, "begin " + word), 4)
        self.wrong(read_program, with_line(LOOKING_TEXT, 9, "begin 3"), 9)
        self.assertEqual(read_layout(with_line(PAIR_TEXT, 4, "begin 1")), Layout(switch(), 1, ["set"], ["set"]))

    def test_teams(self):
        text = KEPT_TEXT + "begin 0\nteam x x\nteam y y y\n"
        self.assertEqual(read_layout(text), Layout(KEPT, 0, ["x", "x"], ["y", "y", "y"]))
        for team in ("", "z", "y x", "x y x", "x y z", "X", "x /", "x  y"):
            self.wrong(read_layout, with_line(text, 6, "team " + team), 6)
            self.wrong(read_layout, with_line(text, 7, "team " + team), 7)

    def test_a_sixth_hand(self):
        text = KEPT_TEXT + "begin 0\nteam x x\nteam y y y\n"
        self.wrong(read_layout, with_line(text, 7, "team y y y y"), 7)
        self.wrong(read_layout, with_line(text, 6, "team x x x"), 7)
        self.wrong(read_layout, with_line(text, 6, "team x x x x x"), 7)
        self.wrong(read_layout, with_line(text, 6, "team x x x x x x"), 6)
        self.wrong(read_layout, KEPT_TEXT + "begin 0\nteam x x x x x\n", 7)

    def test_a_thirteenth_thing(self):
        one = SWITCH_TEXT + "begin 0\n"
        hands = "hand\nlook 11 0 1\nend 0\nhand\nlook 0 0 1\nend 0\n"
        self.assertEqual(len(read_program(one * 12 + hands).things), 12)
        self.wrong(read_program, one * 13 + hands, 49)
        self.wrong(read_program, one * 11 + hands, 46)

    def test_a_fifth_hand(self):
        one = "hand\nlook 0 0 1\nend 0\n"
        ahead = SWITCH_TEXT + "begin 0\n"
        for many in (2, 3, 4):
            self.assertEqual(read_program(ahead + one * many).hands, many)
        self.wrong(read_program, ahead + one * 5, 17)
        self.wrong(read_program, ahead + one, 8)
        self.wrong(read_program, ahead, 5)

    def test_a_201st_node(self):
        def text(many):
            nodes = "".join(f"look 0 0 {number + 1}\n" for number in range(many - 1)) + "end 0\n"
            return SWITCH_TEXT + "begin 0\nhand\nlook 0 0 1\nend 0\nhand\n" + nodes

        self.assertEqual(len(read_program(text(200)).script(1)), 200)
        self.wrong(read_program, text(201), 209)
        self.wrong(read_program, text(201) + "x", 209)

    def test_an_end_as_the_first_node_and_a_script_without_a_node(self):
        ahead = SWITCH_TEXT + "begin 0\n"
        self.wrong(read_program, ahead + "hand\nend 0\nhand\nlook 0 0 1\nend 0\n", 6)
        self.wrong(read_program, ahead + "hand\nlook 0 0 1\nend 0\nhand\nend 0\n", 9)
        self.wrong(read_program, ahead + "hand\nhand\nlook 0 0 1\nend 0\n", 6)
        self.wrong(read_program, ahead + "hand\nlook 0 0 1\nend 0\nhand\n", 9)
        self.wrong(read_program, ahead + "hand\nlook 0 0 1\nend 0\nhand\nlook 0 0 1\nend 0\nhand\n", 12)

    def test_nodes(self):
        lines = ["do 0 set", "do 0 set 0", "do 0 put 0 1", "do 1 set 0 1", "do 0 0 1", "do 0 set 1 1 0 1", "do 0 set 0 1 0 2",
                 "do 0 set 10 1", "do 0 set 0 0", "look 0", "look 0 0", "look 2 0 1", "look 0 2 1", "look 0 1 1 0 1",
                 "look 0 0 1 0 1", "look 0 0 0", "look 0 set 0 1", "end", "end 0 0", "end 01", "stop 0", "do 0 SET 0 1",
                 "do -1 set 0 1", "look 00 0 1", "do 0 set 0 01", "do 0 set 00 1", "do " + HUGE + " set 0 1",
                 "do 0 set " + HUGE + " 1", "look 0 " + HUGE + " 1", "look " + GREAT + " 0 1", "do 0", "do", "look"]
        for line in lines:
            self.wrong(read_program, with_line(RACE_TEXT, 6, line), 6)
            self.wrong(read_program, with_line(RACE_TEXT, 10, line), 10)
        for line in ("do 0 set 0 1", "look 0 0 1", "do 0 set 0 0", "look 0 0 0"):
            self.wrong(read_program, with_line(RACE_TEXT, 7, line), 7)
        self.assertEqual(read_program(with_line(RACE_TEXT, 7, "do 0 set 0 2")).script(0)[1], ("do", 0, "set", {0: 2}))

    def test_branches_and_hands_are_looked_at_behind_all_lines(self):
        for node in ("3", "4", GREAT, HUGE):
            for line in ("do 0 set 0 1 1 " + node, "look 0 0 1 1 " + node):
                self.wrong(read_program, with_line(RACE_TEXT, 6, line), 6)
                self.wrong(read_program, with_line(RACE_TEXT, 10, line), 10)
                self.wrong(read_program, with_line(with_line(RACE_TEXT, 6, line), 12, "end x"), 12)
                self.wrong(read_program, with_line(RACE_TEXT, 6, line)[:-1], 12)
                self.wrong(read_program, with_line(with_line(RACE_TEXT, 6, line), 3, "state 1 2"), 3)
        for hand in ("2", "3", GREAT, HUGE):
            self.wrong(read_program, with_line(RACE_TEXT, 8, "end " + hand), 8)
            self.wrong(read_program, with_line(with_line(RACE_TEXT, 8, "end " + hand), 10, "do 0 set 0 3"), 8)
            self.wrong(read_program, with_line(with_line(RACE_TEXT, 8, "end " + hand), 6, "do 0 set 0 3"), 6)
            self.wrong(read_program, with_line(RACE_TEXT, 8, "end " + hand) + "x\n", 13)
        third = RACE_TEXT + "hand\nlook 0 0 1\nend 2\n"
        self.assertEqual(read_program(with_line(third, 8, "end 2")).script(0)[2], ("end", 2))

    def test_the_last_node_is_an_end(self):
        self.wrong(read_program, with_line(RACE_TEXT, 8, "look 0 0 3"), 8)
        self.wrong(read_program, with_line(RACE_TEXT, 8, "look 0 0 2"), 8)

    def test_texts_of_what_the_package_made_greater(self):
        wide = keep(["a", "b", "c"]) | keep(["d", "e"])
        self.assertEqual(text_of(wide).split("\n")[:2], ["deeds a b c d e", "state 0 3 0 6 0 9 0 1 0 2"])
        self.wrong(read_thing, text_of(wide), 1)
        high = ladder(4)
        self.wrong(read_thing, text_of(high), 10)
        self.wrong(read_layout, text_of(Layout(wide, 0, ["a"], ["b"])), 1)
        self.wrong(read_layout, text_of(Layout(high, 0, ["left"], ["right"])), 10)
        self.wrong(read_program, text_of(settle(wide, 3)), 1)
        self.wrong(read_program, text_of(settle(high, 3)), 10)
        second = Program([(switch(), 0), (high, 8)], [[("look", 1, {8: 1}), ("end", 0)]] * 2)
        self.wrong(read_program, text_of(second), 14)

    def test_no_state_of_a_thing_ahead(self):
        self.wrong(read_program, with_line(LOOKING_TEXT, 11, "look 1 0 2 3 1"), 11)
        self.wrong(read_program, with_line(LOOKING_TEXT, 16, "look 0 2 1"), 16)
        self.wrong(read_program, with_line(LOOKING_TEXT, 12, "do 0 y 0 3 9 2"), 12)


if __name__ == "__main__":
    unittest.main()
