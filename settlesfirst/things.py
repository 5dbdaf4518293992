"""Things: tables of states and deeds, and how one is folded onto another one."""

from settlesfirst.checks import MOST_DEEDS, MOST_STATES, check_deeds, check_limit, check_rows
from settlesfirst.errors import (
    InvalidAnswers,
    InvalidDeed,
    InvalidNames,
    InvalidState,
    InvalidStates,
    InvalidWord,
    SharedDeed,
)
from settlesfirst.kinds import is_answer, is_integer_from, is_list, is_name


class Thing:
    """A thing: its deeds, and for each state and deed an answer and the next state."""

    def __init__(self, deeds, rows):
        check_deeds(deeds)
        check_rows(rows, len(deeds))
        check_limit("deeds", len(deeds), MOST_DEEDS)
        check_limit("states", len(rows), MOST_STATES)
        self._deeds = list(deeds)
        self._rows = [[(answer, after) for answer, after in row] for row in rows]

    @property
    def deeds(self):
        """The list of the deeds."""
        return list(self._deeds)

    @property
    def states(self):
        """How many states there are."""
        return len(self._rows)

    def rows(self):
        """For each state the list of the tuples (answer, next), by the deeds."""
        return [list(row) for row in self._rows]

    def __call__(self, state, deed):
        """The tuple (answer, next) of this deed at this state."""
        return entry_at(self, state, deed)

    def run(self, state, word):
        """The answers of the deeds of a word, and the state to which it leads."""
        check_state(self, state)
        check_word(self, word)
        places = {deed: place for place, deed in enumerate(self._deeds)}
        answers = []
        at = state
        for deed in word:
            answer, at = self._rows[at][places[deed]]
            answers.append(answer)
        return answers, at

    def reached(self, state):
        """The sorted list of the states that are come to from this one."""
        check_state(self, state)
        return sorted(met_states(self._rows, state, list(range(len(self._deeds)))))

    def part(self, state, deeds):
        """The part with these deeds, and the states that are come to from this one by them."""
        check_state(self, state)
        check_deeds(deeds, self._deeds)
        places = [place for place, deed in enumerate(self._deeds) if deed in deeds]
        met = met_states(self._rows, state, places)
        rows = [[self._rows[elder][place] for place in places] for elder in met]
        return made_thing([self._deeds[place] for place in places], called_by_place(rows, met))

    def numbered(self, order):
        """The Thing in which state order[k] is called k."""
        if not is_list(order) or len(order) != len(self._rows):
            raise InvalidStates(order)
        if not all([is_state(self, state) for state in order]):
            raise InvalidStates(order)
        if len(set(order)) != len(order):
            raise InvalidStates(order)
        return made_thing(self.deeds, called_by_place([self._rows[state] for state in order], order))

    def renamed(self, names):
        """The Thing with other names of deeds: those that are no key stay."""
        if not isinstance(names, dict):
            raise InvalidNames(names)
        if not all([deed in self and is_name(name) for deed, name in names.items()]):
            raise InvalidNames(names)
        deeds = [names.get(deed, deed) for deed in self._deeds]
        if len(set(deeds)) != len(deeds):
            raise InvalidNames(names)
        return made_thing(deeds, self.rows())

    def answered(self, answers):
        """The Thing with other answers: those that are no key stay."""
        if not isinstance(answers, dict):
            raise InvalidAnswers(answers)
        if not all([is_answer(elder) and is_answer(answer) for elder, answer in answers.items()]):
            raise InvalidAnswers(answers)
        rows = [[(answers.get(answer, answer), after) for answer, after in row] for row in self._rows]
        return made_thing(self.deeds, rows)

    def __or__(self, other):
        """This thing and another one beside each other."""
        for deed in self._deeds:
            if deed in other._deeds:
                raise SharedDeed(deed)
        many = len(other._rows)
        rows = [
            [(answer, after * many + there) for answer, after in mine]
            + [(answer, here * many + after) for answer, after in theirs]
            for here, mine in enumerate(self._rows)
            for there, theirs in enumerate(other._rows)
        ]
        return made_thing(self._deeds + other._deeds, rows)

    def __len__(self):
        return len(self._rows)

    def __contains__(self, value):
        return isinstance(value, str) and value in self._deeds

    def __eq__(self, other):
        return isinstance(other, Thing) and self._deeds == other._deeds and self._rows == other._rows

    def __repr__(self):
        return f"Thing({self._deeds!r}, {self._rows!r})"


def made_thing(deeds, rows):
    """A Thing of lists that are new and right: what the package makes may be beyond the limits."""
    made = Thing(["a"], [[(0, 0)]])
    made._deeds = deeds
    made._rows = rows
    return made


def entry_at(thing, state, deed):
    """The tuple (answer, next) of this deed at this state."""
    check_state(thing, state)
    check_deed(thing, deed)
    return thing._rows[state][thing._deeds.index(deed)]


def with_entry(thing, state, deed, entry):
    """The Thing in which the deed has this tuple (answer, next) at the state."""
    rows = thing.rows()
    rows[state][thing._deeds.index(deed)] = (entry[0], entry[1])
    return made_thing(thing.deeds, rows)


def with_deed(thing, deed, entries):
    """The Thing with one deed more, which has these tuples (answer, next) by the states."""
    rows = [row + [(entry[0], entry[1])] for row, entry in zip(thing.rows(), entries)]
    return made_thing(thing.deeds + [deed], rows)


def without_deed(thing, deed):
    """The Thing without this deed, which is not its only one."""
    at = thing._deeds.index(deed)
    deeds = thing.deeds
    rows = [row[:at] + row[at + 1:] for row in thing.rows()]
    return made_thing(deeds[:at] + deeds[at + 1:], rows)


def is_state(thing, value):
    """Whether any value is a state of the thing."""
    return is_integer_from(value, 0, len(thing) - 1)


def check_state(thing, state):
    """Raise InvalidState unless it is a state of the thing."""
    if not is_state(thing, state):
        raise InvalidState(state)


def check_deed(thing, deed):
    """Raise InvalidDeed unless it is a deed of the thing."""
    if deed not in thing:
        raise InvalidDeed(deed)


def check_word(thing, word):
    """Raise InvalidWord unless it is a list of deeds of the thing."""
    if not is_list(word):
        raise InvalidWord(None)
    for place, deed in enumerate(word):
        if deed not in thing:
            raise InvalidWord(place)


def met_states(rows, state, places):
    """The states that are come to from this one by the deeds at these places, as they are met."""
    met = [state]
    known = {state: True}
    at = 0
    while at < len(met):
        for place in places:
            after = rows[met[at]][place][1]
            if after not in known:
                known[after] = True
                met.append(after)
        at += 1
    return met


def called_by_place(rows, states):
    """The rows of these states, in which each next state is called by its place among them."""
    called = {state: place for place, state in enumerate(states)}
    return [[(answer, called[after]) for answer, after in row] for row in rows]


def is_fold(one, other, states, deeds, answers):
    """Whether any three values tell a fold of one thing onto the other."""
    if not folds_states(one, other, states) or not folds_deeds(one, other, deeds):
        return False
    if not folds_answers(one, answers):
        return False
    for state, row in enumerate(one.rows()):
        for deed, (answer, after) in zip(one.deeds, row):
            if other(states[state], deeds[deed]) != (answers[answer], states[after]):
                return False
    return True


def folds_states(one, other, states):
    """Whether any value is a list with a state of other for each of one, and each is there."""
    if not is_list(states) or len(states) != len(one):
        return False
    if not all([is_state(other, state) for state in states]):
        return False
    return len(set(states)) == len(other)


def folds_deeds(one, other, deeds):
    """Whether any value is a dict from just the deeds of one to all those of other."""
    if not isinstance(deeds, dict) or len(deeds) != len(one.deeds):
        return False
    if not all([deed in one and told in other for deed, told in deeds.items()]):
        return False
    return len(set(list(deeds.values()))) == len(other.deeds)


def folds_answers(one, answers):
    """Whether any value is a dict from just the answers in the table of one to answers."""
    if not isinstance(answers, dict):
        return False
    if not all([is_answer(answer) and is_answer(told) for answer, told in answers.items()]):
        return False
    return sorted(answers) == sorted(set([answer for row in one.rows() for answer, _ in row]))
