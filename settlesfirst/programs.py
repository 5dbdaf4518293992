"""Programs: things in which hands step, each hand by a script of its own."""

from settlesfirst.checks import check_hand, check_limit, is_hand
from settlesfirst.errors import InvalidScripts, InvalidThings
from settlesfirst.kinds import is_answer, is_filled_list, is_integer_from, is_list
from settlesfirst.things import Thing, is_state

MOST_THINGS = 12
FEWEST_SCRIPTS = 2
MOST_HANDS = 4
MOST_NODES = 200


class Program:
    """A program: its things, each with a state in which it begins, and for each hand a script."""

    def __init__(self, things, scripts):
        check_things(things)
        check_scripts(things, scripts)
        check_limit("things", len(things), MOST_THINGS)
        check_limit("hands", len(scripts), MOST_HANDS)
        for script in scripts:
            check_limit("nodes", len(script), MOST_NODES)
        self._things = [(thing, state) for thing, state in things]
        self._scripts = [copied_script(script) for script in scripts]

    @property
    def things(self):
        """The list of the tuples of a thing and the state in which it begins."""
        return list(self._things)

    @property
    def hands(self):
        """How many hands there are."""
        return len(self._scripts)

    def script(self, hand):
        """The list of the nodes of this hand's script."""
        check_hand(hand, len(self._scripts))
        return copied_script(self._scripts[hand])

    def __len__(self):
        return len([node for script in self._scripts for node in script])

    def __eq__(self, other):
        return isinstance(other, Program) and self._things == other._things and self._scripts == other._scripts


def check_things(things):
    """Raise InvalidThings unless it is a list of tuples of a Thing and a state of it."""
    if not is_filled_list(things):
        raise InvalidThings(None)
    for position, entry in enumerate(things):
        if not is_begun_thing(entry):
            raise InvalidThings(position)


def is_begun_thing(value):
    """Whether any value is a tuple of a Thing and a state of it."""
    if not isinstance(value, tuple) or len(value) != 2:
        return False
    return isinstance(value[0], Thing) and is_state(value[0], value[1])


def check_scripts(things, scripts):
    """Raise InvalidScripts unless it is a list of the scripts of two hands or more that use these things."""
    if not is_list(scripts) or len(scripts) < FEWEST_SCRIPTS:
        raise InvalidScripts(None)
    for position, script in enumerate(scripts):
        if not is_script(things, len(scripts), script):
            raise InvalidScripts(position)


def is_script(things, hands, value):
    """Whether any value is a script of a program with these things and so many hands."""
    if not is_filled_list(value):
        return False
    many = len(value)
    return all([is_node(things, hands, number, many, node) for number, node in enumerate(value)])


def is_node(things, hands, number, many, value):
    """Whether any value may be the node of this number in a script of so many nodes."""
    if not isinstance(value, tuple) or len(value) < 2 or not isinstance(value[0], str):
        return False
    if value[0] == "end":
        return number > 0 and len(value) == 2 and is_hand(value[1], hands)
    if not is_integer_from(value[1], 0, len(things) - 1) or not are_branches(value[-1], number, many):
        return False
    thing = things[value[1]][0]
    if value[0] == "do":
        return len(value) == 4 and value[2] in thing and all([is_answer(answer) for answer in value[3]])
    return value[0] == "look" and len(value) == 3 and all([is_state(thing, state) for state in value[2]])


def are_branches(value, number, many):
    """Whether any value is a dict with a key that leads to nodes behind this one, of so many nodes."""
    if not isinstance(value, dict) or len(value) == 0:
        return False
    return all([is_integer_from(after, number + 1, many - 1) for after in value.values()])


def copied_script(script):
    """A new list of the nodes of a script, their branches sorted."""
    return [copied_node(node) for node in script]


def copied_node(node):
    """The same node with new branches, which are sorted."""
    if node[0] == "end":
        return node
    branches = node[-1]
    return node[:-1] + ({key: branches[key] for key in sorted(branches)},)
