"""Texts of things, layouts and programs, and how they are read."""

from settlesfirst.checks import MOST_STATES
from settlesfirst.errors import InvalidText
from settlesfirst.layouts import MOST_IN_LAYOUT, Layout
from settlesfirst.programs import FEWEST_SCRIPTS, MOST_HANDS, MOST_NODES, MOST_THINGS, Program
from settlesfirst.things import Thing
from settlesfirst.words import is_begin_line, is_deeds_line, is_state_line, is_team_line, node_in, number_in


def text_of(entry):
    """The text of a Thing, a Layout or a Program."""
    if isinstance(entry, Thing):
        lines = lines_of_thing(entry)
    elif isinstance(entry, Layout):
        lines = lines_of_layout(entry)
    else:
        lines = lines_of_program(entry)
    return "".join([line + "\n" for line in lines])


def bytes_of(entry):
    """The text of a Thing, a Layout or a Program as bytes."""
    return text_of(entry).encode("ascii")


def lines_of_thing(thing):
    """The lines of a thing."""
    lines = [line_of("deeds", thing.deeds)]
    for row in thing.rows():
        lines.append(line_of("state", [number for entry in row for number in entry]))
    return lines


def lines_of_layout(layout):
    """The lines of a layout."""
    lines = lines_of_thing(layout.thing)
    return lines + [line_of("begin", [layout.state]), line_of("team", layout.first), line_of("team", layout.second)]


def lines_of_program(program):
    """The lines of a program."""
    lines = []
    for thing, state in program.things:
        lines.extend(lines_of_thing(thing) + [line_of("begin", [state])])
    for hand in range(program.hands):
        lines.append("hand")
        lines.extend([line_of_node(node) for node in program.script(hand)])
    return lines


def line_of_node(node):
    """The line of a node."""
    if node[0] == "end":
        return line_of("end", [node[1]])
    branches = node[-1]
    told = [number for key in sorted(branches) for number in (key, branches[key])]
    return line_of(node[0], list(node[1:-1]) + told)


def line_of(word, more):
    """The line of this word and more of them, or of numbers."""
    return " ".join([word] + [str(each) for each in more])


class Lines:
    """The lines of a text, of which one after the other is taken; raises InvalidText where one is not as told."""

    def __init__(self, text):
        if not isinstance(text, str):
            raise InvalidText(None)
        parts = text.split("\n")
        self.parted = [part.split(" ") for part in parts[:-1]]
        self.is_whole = parts[-1] == ""
        self.at = 0

    def words(self):
        """The words of the next line; none if it is lacking, or without a line feed."""
        return list(self.parted[self.at]) if self.at < len(self.parted) else []

    def number(self):
        """The number of the next line."""
        return self.at + 1

    def check(self, is_as_told):
        """Refuse the next line unless it is as told."""
        if not is_as_told:
            raise InvalidText(self.number())

    def take(self, is_as_told):
        """The words of the next line, which is taken."""
        self.check(is_as_told)
        words = self.words()
        self.at += 1
        return words

    def finish(self):
        """Refuse the next line if there is one."""
        self.check(self.is_whole and self.at == len(self.parted))


class ReadThing:
    """What the lines of a thing tell, as far as it is known by the lines ahead of each."""

    def __init__(self, lines):
        self.named = lines.take(is_deeds_line(lines.words()))[1:]
        self.line = lines.number()
        self.table = [row_of(lines.take(is_state_line(lines.words(), self.named)))]
        while len(self.table) < MOST_STATES and is_state_line(lines.words(), self.named):
            self.table.append(row_of(lines.take(True)))

    def made(self):
        """The Thing; raises InvalidText with the first line with a next that is no state of it."""
        for place, row in enumerate(self.table):
            if not all([after < len(self.table) for _, after in row]):
                raise InvalidText(self.line + place)
        return Thing(self.named, self.table)


def row_of(words):
    """The tuples (answer, next) that the words of a line of a state tell."""
    return [(int(words[at]), number_in(words[at + 1])) for at in range(1, len(words), 2)]


def taken_state(lines, states):
    """The state, one of so many, that a line tells."""
    return number_in(lines.take(is_begin_line(lines.words(), states))[1])


def read_thing(text):
    """The Thing with just this text."""
    lines = Lines(text)
    read = ReadThing(lines)
    lines.finish()
    return read.made()


def read_layout(text):
    """The Layout with just this text."""
    lines = Lines(text)
    read = ReadThing(lines)
    state = taken_state(lines, len(read.table))
    first = lines.take(is_team_line(lines.words(), read.named, MOST_IN_LAYOUT))[1:]
    second = lines.take(is_team_line(lines.words(), read.named, MOST_IN_LAYOUT - len(first)))[1:]
    lines.finish()
    return Layout(read.made(), state, first, second)


def read_program(text):
    """The Program with just this text."""
    lines = Lines(text)
    begun = [taken_begun(lines)]
    while len(begun) < MOST_THINGS and lines.words()[:1] == ["deeds"]:
        begun.append(taken_begun(lines))
    known = [(read.named, len(read.table)) for read, _ in begun]
    scripts = []
    while len(scripts) < FEWEST_SCRIPTS or (len(scripts) < MOST_HANDS and lines.words() == ["hand"]):
        scripts.append(taken_script(lines, known))
    lines.finish()
    things = [(read.made(), state) for read, state in begun]
    for line, nodes in scripts:
        check_nodes(line, nodes, len(scripts))
    return Program(things, [nodes for _, nodes in scripts])


def taken_begun(lines):
    """The tuple of what is read of a thing and the state in which it begins."""
    read = ReadThing(lines)
    return read, taken_state(lines, len(read.table))


def taken_script(lines, known):
    """The tuple of the number of the line of a script's first node and the list of its nodes."""
    lines.take(lines.words() == ["hand"])
    line = lines.number()
    nodes = []
    node = node_in(lines.words(), known, 0)
    while node is not None and len(nodes) < MOST_NODES:
        lines.take(True)
        nodes.append(node)
        node = node_in(lines.words(), known, len(nodes))
    lines.check(len(nodes) > 0)
    return line, nodes


def check_nodes(line, nodes, hands):
    """Raise InvalidText with the first line with a branch to no node of these, or an end with none of so many hands."""
    for place, node in enumerate(nodes):
        told = [node[1]] if node[0] == "end" else list(node[-1].values())
        limit = hands if node[0] == "end" else len(nodes)
        if not all([number < limit for number in told]):
            raise InvalidText(line + place)
