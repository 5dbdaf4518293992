"""A desk: a thing that is changed, whose changes can be taken back, and trials that take back all of them."""

from settlesfirst.checks import MOST_DEEDS, check_limit
from settlesfirst.commands import answer_to, words_of
from settlesfirst.errors import (
    CommandFailed,
    InvalidCommand,
    InvalidEntry,
    InvalidNames,
    InvalidRows,
    LastOne,
    NothingToUndo,
)
from settlesfirst.kinds import is_entry, is_list, is_name
from settlesfirst.things import check_deed, check_state, entry_at, with_deed, with_entry, without_deed
from settlesfirst.words import number_in


class Desk:
    """A desk: the thing as it stands, and those that it had ahead of each change."""

    def __init__(self, thing):
        self._thing = thing
        self._elder = ()

    @property
    def thing(self):
        """The thing as it stands."""
        return self._thing

    @thing.setter
    def thing(self, value):
        self._change(value)

    def _change(self, thing):
        """Put another thing in the place of the one that stands here, which is kept."""
        self._elder = self._elder + (self._thing,)
        self._thing = thing

    def __getitem__(self, at):
        state, deed = at
        return entry_at(self._thing, state, deed)

    def __iter__(self):
        raise TypeError("a desk is not iterated over")

    def __setitem__(self, at, worth):
        state, deed = at
        self.put(state, deed, worth)

    def put(self, state, deed, entry):
        """Make this the tuple (answer, next) of a deed at a state."""
        check_state(self._thing, state)
        check_deed(self._thing, deed)
        if not is_entry(entry, len(self._thing)):
            raise InvalidEntry(entry)
        self._change(with_entry(self._thing, state, deed, entry))

    def __iadd__(self, other):
        self._change(self._thing | other)
        return self

    def __isub__(self, other):
        self._drop(other)
        return self

    def _drop(self, deed):
        """Go on without this deed."""
        check_deed(self._thing, deed)
        if len(self._thing.deeds) == 1:
            raise LastOne(deed)
        self._change(without_deed(self._thing, deed))

    def widen(self, deed, entries):
        """Add one deed more, behind the others, with these tuples (answer, next) by the states."""
        if not is_name(deed) or deed in self._thing:
            raise InvalidNames(deed)
        if not is_list(entries) or len(entries) != len(self._thing):
            raise InvalidRows(None)
        for position, entry in enumerate(entries):
            if not is_entry(entry, len(self._thing)):
                raise InvalidRows(position)
        check_limit("deeds", len(self._thing.deeds) + 1, MOST_DEEDS)
        self._change(with_deed(self._thing, deed, entries))

    def undo(self):
        """Take the last change back."""
        if len(self._elder) == 0:
            raise NothingToUndo()
        self._thing = self._elder[-1]
        self._elder = self._elder[:-1]

    def __len__(self):
        return len(self._elder)

    def __contains__(self, x):
        return x in self._thing

    def do(self, command):
        """Do what a command tells, or answer what it asks; the answer is a string."""
        words = words_of(self._thing, command)
        if not words:
            raise InvalidCommand(command)
        if words[0] not in ("set", "drop", "undo"):
            return answer_to(self._thing, words)
        if words[0] == "set":
            self.put(number_in(words[1]), words[2], (number_in(words[3]), number_in(words[4])))
        elif words[0] == "drop":
            self._drop(words[1])
        else:
            self.undo()
        return "done"

    def do_all(self, *commands):
        """The list of the answers to all commands, none of which has an effect if one of them fails."""
        thing = self._thing
        elder = self._elder
        answers = []
        for position, command in enumerate(commands):
            try:
                answers.append(self.do(command))
            except (InvalidCommand, LastOne, NothingToUndo) as error:
                self._thing = thing
                self._elder = elder
                raise CommandFailed(position) from error
        return answers


class Trial:
    """A trial of a desk: what is done within its block is taken back behind it."""

    def __init__(self, desk):
        self._desk = desk
        self._kept_thing = None
        self._kept_elder = ()

    def __enter__(self):
        desk = self._desk
        self._kept_thing = desk._thing
        self._kept_elder = desk._elder
        return desk

    def __exit__(self, kind, value, trace):
        desk = self._desk
        desk._thing = self._kept_thing
        desk._elder = self._kept_elder


def tried(desk, action):
    """What the action returns for the desk; all that it does to the desk is taken back."""
    with Trial(desk) as held:
        return action(held)
