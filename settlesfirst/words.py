"""Words of texts and commands: what they tell, if anything."""

from settlesfirst.checks import MOST_DEEDS
from settlesfirst.kinds import GREATEST_ANSWER, is_name

DIGITS = "0123456789"
MOST_DIGITS = 30


def number_in(word):
    """The COUNT that a word tells; None if it tells none."""
    if word == "" or not all([sign in DIGITS for sign in word]):
        return None
    if word[0] == "0" and len(word) > 1:
        return None
    # No number of anything is as great: so it need not be known just how great it is.
    return int(word) if len(word) <= MOST_DIGITS else 10 ** 30


def number_below(word, many):
    """The COUNT that a word tells, if it is one of the first so many; None."""
    number = number_in(word)
    return number if number is not None and number < many else None


def answer_in(word):
    """The answer that a word tells; None if it tells none."""
    return number_below(word, GREATEST_ANSWER + 1)


def is_deeds_line(words):
    """Whether these are the words of a line that tells the deeds of a thing."""
    deeds = words[1:]
    if words[:1] != ["deeds"] or not 1 <= len(deeds) <= MOST_DEEDS:
        return False
    return all([is_name(deed) for deed in deeds]) and len(set(deeds)) == len(deeds)


def is_state_line(words, deeds):
    """Whether these are the words of a line that tells a state of a thing with these deeds, its nexts any COUNTS."""
    if words[:1] != ["state"] or len(words) != 1 + 2 * len(deeds):
        return False
    answers = [answer_in(word) for word in words[1::2]]
    nexts = [number_in(word) for word in words[2::2]]
    return None not in answers and None not in nexts


def is_begin_line(words, states):
    """Whether these are the words of a line that tells one of so many states."""
    return len(words) == 2 and words[0] == "begin" and number_below(words[1], states) is not None


def is_team_line(words, deeds, most):
    """Whether these are the words of a line that tells a team of at most so many hands with some of these deeds."""
    team = words[1:]
    if words[:1] != ["team"] or not 1 <= len(team) <= most or not all([deed in deeds for deed in team]):
        return False
    places = [deeds.index(deed) for deed in team]
    return places == sorted(places)


def node_in(words, begun, number):
    """The node of this number that the words of a line tell; None if they tell none.

    For each thing begun has its deeds and how many states it has. Whom an end names, and the nodes to which branches
    lead, are any COUNTS, but the nodes greater than the number.
    """
    if len(words) < 2:
        return None
    if words[0] == "end":
        hand = number_in(words[1])
        return ("end", hand) if number > 0 and len(words) == 2 and hand is not None else None
    thing = number_below(words[1], len(begun))
    if thing is None:
        return None
    deeds, states = begun[thing]
    if words[0] == "do" and len(words) > 2 and words[2] in deeds:
        branches = branches_in(words[3:], GREATEST_ANSWER + 1, number)
        return None if branches is None else ("do", thing, words[2], branches)
    if words[0] == "look":
        branches = branches_in(words[2:], states, number)
        return None if branches is None else ("look", thing, branches)
    return None


def branches_in(words, keys, number):
    """The branches that words tell, of so many keys, each to a node behind the one of this number; None."""
    if len(words) == 0 or len(words) % 2 != 0:
        return None
    branches = {}
    ahead = -1
    for at in range(0, len(words), 2):
        key = number_below(words[at], keys)
        after = number_in(words[at + 1])
        if key is None or key <= ahead or after is None or after <= number:
            return None
        branches[key] = after
        ahead = key
    return branches
