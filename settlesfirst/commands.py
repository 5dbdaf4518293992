"""Commands to a desk: whether they are as told, and the answers to those that ask about the thing."""

from settlesfirst.falls import power_with_falls, records
from settlesfirst.layouts import MOST_IN_LAYOUT, Layout
from settlesfirst.power import is_endless, most, power
from settlesfirst.telling import tells
from settlesfirst.words import answer_in, number_below, number_in

ALONE = ("power", "falls", "endless", "undo")
OF_LAYOUTS = ("tells", "records")
BETWEEN_TEAMS = "/"


def words_of(thing, command):
    """The words of a command to a desk with this thing; none if the value is no such command."""
    if not isinstance(command, str):
        return []
    words = command.split(" ")
    if words[0] in ALONE:
        is_as_told = len(words) == 1
    elif words[0] in OF_LAYOUTS:
        is_as_told = len(words) > 2 and is_state_word(thing, words[1]) and are_teams(thing, words[2:])
    elif words[0] == "most":
        is_as_told = len(words) == 4 and is_state_word(thing, words[1]) and words[2] in thing and words[3] in thing
    elif words[0] == "set":
        is_as_told = len(words) == 5 and is_change(thing, words)
    else:
        is_as_told = words[0] == "drop" and len(words) == 2 and words[1] in thing
    return words if is_as_told else []


def is_state_word(thing, word):
    """Whether a word tells a state of the thing."""
    return number_below(word, len(thing)) is not None


def is_change(thing, words):
    """Whether the words behind the first one tell a state, a deed, an answer and a next state of the thing."""
    if not is_state_word(thing, words[1]) or words[2] not in thing:
        return False
    return answer_in(words[3]) is not None and is_state_word(thing, words[4])


def are_teams(thing, words):
    """Whether these are the deeds of two teams of at most five hands together."""
    if words.count(BETWEEN_TEAMS) != 1 or len(words) > MOST_IN_LAYOUT + 1:
        return False
    first, second = teams_in(words)
    if len(first) == 0 or len(second) == 0:
        return False
    return all([deed in thing for deed in first + second])


def teams_in(words):
    """The lists of the words on both sides of the one that parts the teams."""
    at = words.index(BETWEEN_TEAMS)
    return words[:at], words[at + 1:]


def answer_to(thing, words):
    """The answer to a command that asks about the thing, by its words."""
    if words[0] == "power":
        return str(power(thing))
    if words[0] == "falls":
        return str(power_with_falls(thing))
    if words[0] == "endless":
        return yes_or_no(is_endless(thing))
    if words[0] == "most":
        found = most(thing, number_in(words[1]), words[2], words[3])
        return "all" if found is None else str(found)
    first, second = teams_in(words[2:])
    layout = Layout(thing, number_in(words[1]), first, second)
    return yes_or_no(tells(layout) if words[0] == "tells" else records(layout))


def yes_or_no(is_so):
    """The answer that tells a bool."""
    return "yes" if is_so else "no"
