"""The kinds of values that are told apart wherever values are passed."""

LETTERS = "abcdefghijklmnopqrstuvwxyz"
LONGEST_NAME = 8
GREATEST_ANSWER = 9


def is_integer(value):
    """Whether any value is an int that is not a bool."""
    return isinstance(value, int) and not isinstance(value, bool)


def is_integer_from(value, low, high):
    """Whether any value is an INTEGER from low to high, both included."""
    return is_integer(value) and low <= value <= high


def is_list(value):
    """Whether any value may stand where a list is told: a tuple may, too."""
    return isinstance(value, (list, tuple))


def is_filled_list(value):
    """Whether any value is a list of at least one element."""
    return is_list(value) and len(value) > 0


def is_name(value):
    """Whether any value is a string of one to eight letters from a to z."""
    if not isinstance(value, str) or not 1 <= len(value) <= LONGEST_NAME:
        return False
    return all([letter in LETTERS for letter in value])


def is_answer(value):
    """Whether any value is an INTEGER from 0 to 9."""
    return is_integer_from(value, 0, GREATEST_ANSWER)


def is_entry(value, states):
    """Whether any value is a tuple (answer, next) of a thing with so many states."""
    if not isinstance(value, tuple) or len(value) != 2:
        return False
    return is_answer(value[0]) and is_integer_from(value[1], 0, states - 1)
