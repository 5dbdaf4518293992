"""Things of well-known kinds: boxes, cells, counters, ladders."""

from settlesfirst.checks import MOST_DEEDS, MOST_STATES, check_deeds, check_limit
from settlesfirst.errors import InvalidNumber
from settlesfirst.kinds import is_integer_from
from settlesfirst.things import made_thing

TALLEST_LADDER = 4


def box(names):
    """The box whose state tells which of these deeds was done last; 0 ahead of all."""
    check_cell(names)
    entries = [(0, place + 1) for place in range(len(names))]
    return made_thing(list(names), [list(entries) for _ in range(len(names) + 1)])


def keep(names):
    """The cell whose state tells which of these deeds was done first; 0 ahead of all."""
    check_cell(names)
    rows = [[(0, state) for _ in names] for state in range(len(names) + 1)]
    rows[0] = [(0, place + 1) for place in range(len(names))]
    return made_thing(list(names), rows)


def swap(names):
    """The same as a box, but each deed answers the elder state."""
    check_cell(names)
    rows = [[(state, place + 1) for place in range(len(names))] for state in range(len(names) + 1)]
    return made_thing(list(names), rows)


def check_cell(names):
    """Raise the errors of the names of a box, a keep or a swap."""
    check_deeds(names)
    check_limit("deeds", len(names), MOST_DEEDS)


def counter(size):
    """The thing that counts so many states around, and answers the elder one."""
    if not is_integer_from(size, 1, MOST_STATES):
        raise InvalidNumber(size)
    return made_thing(["add"], [[(state, 0 if state + 1 == size else state + 1)] for state in range(size)])


def ladder(size):
    """The thing that goes up on the side of the first deed, then from the top back to 0."""
    if not is_integer_from(size, 1, TALLEST_LADDER):
        raise InvalidNumber(size)
    rows = [[(0, 1), (0, size + 1)]]
    for state in range(1, 2 * size + 1):
        after = 0 if state in (size, 2 * size) else state + 1
        rows.append([(0, after), (0, after)])
    return made_thing(["left", "right"], rows)


def is_box(thing):
    """Whether each deed always answers 0, and leads from all states to one state."""
    rows = thing.rows()
    covering = [(0, after) for _, after in rows[0]]
    return all([row == covering for row in rows])
