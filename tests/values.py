"""Values that several tests pass."""

import random

from settlesfirst.things import Thing


class Equal:
    """A value that claims to be equal to every other one."""

    def __eq__(self, other):
        return True

    def __hash__(self):
        return 0


NO_INTEGERS = [None, True, False, "0", "", b"0", [], [0], (), (0,), {}, {0: 0}, {0}, object(), int, Equal(),
               Thing(["a"], [[(0, 0)]])]
NO_LISTS = [None, True, 0, 1, "ab", "", b"ab", {}, {0: "a"}, {"a"}, set(), object(), range(2), Equal(),
            Thing(["a"], [[(0, 0)]])]
NO_DICTS = [None, True, 0, "ab", "", [], [("set", "x")], (), {"set"}, object(), Equal(), Thing(["a"], [[(0, 0)]])]
NO_NAMES = [None, True, False, 0, 1, "", "abcdefghi", "A", "aB", "a1", "a b", " a", "a\n", "a_", "{", "`", b"a", ["a"],
            ("a",), [], {}, {"a": 1}, {"a"}, object(), Equal(), Thing(["a"], [[(0, 0)]])]


def switch():
    return Thing(["set"], [[(0, 1)], [(1, 1)]])


def some_things(many, seed, most_deeds=3, most_states=4, most_answer=2):
    """So many things, the same ones for the same seed."""
    source = random.Random(seed)
    found = []
    for _ in range(many):
        deeds = source.sample(["a", "b", "c", "d"], source.randint(1, most_deeds))
        states = source.randint(1, most_states)
        rows = [[(source.randint(0, most_answer), source.randrange(states)) for _ in deeds] for _ in range(states)]
        found.append(Thing(deeds, rows))
    return found


def raised(action, *args, **more):
    """The class and the attributes of the error that a call raises; None if it raises none."""
    try:
        action(*args, **more)
    except Exception as error:
        return type(error), vars(error)
    return None
