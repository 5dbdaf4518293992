"""The errors of the package: each one keeps what was wrong in its attributes."""


class SettleError(ValueError):
    """A value that was passed is not as it must be."""


class InvalidDeeds(SettleError):
    """A list of deeds is not as it must be."""

    def __init__(self, position):
        self.position = position


class InvalidRows(SettleError):
    """The rows are not those of a thing with these deeds."""

    def __init__(self, position):
        self.position = position


class InvalidState(SettleError):
    """What was passed is no state of the thing."""

    def __init__(self, value):
        self.value = value


class InvalidDeed(SettleError):
    """What was passed is no deed of the thing."""

    def __init__(self, value):
        self.value = value


class InvalidWord(SettleError):
    """A word has something that is no deed of the thing."""

    def __init__(self, position):
        self.position = position


class InvalidStates(SettleError):
    """What was passed is no list of all states, each once."""

    def __init__(self, value):
        self.value = value


class InvalidNames(SettleError):
    """The deeds cannot have these names."""

    def __init__(self, value):
        self.value = value


class InvalidEntry(SettleError):
    """What was passed is no tuple of an answer and a next state."""

    def __init__(self, value):
        self.value = value


class InvalidAnswers(SettleError):
    """What was passed is no dict from answers to answers."""

    def __init__(self, value):
        self.value = value


class InvalidNumber(SettleError):
    """What was passed is no number within the range that is asked for."""

    def __init__(self, value):
        self.value = value


class InvalidTeam(SettleError):
    """What was passed is no team."""

    def __init__(self, value):
        self.value = value


class InvalidHand(SettleError):
    """What was passed is no hand of the layout or the program."""

    def __init__(self, value):
        self.value = value


class InvalidOrder(SettleError):
    """What was passed is no order of the hands."""

    def __init__(self, position):
        self.position = position


class InvalidLayout(SettleError):
    """What was passed is no Layout."""

    def __init__(self, value):
        self.value = value


class InvalidThings(SettleError):
    """A list of things is not as it must be."""

    def __init__(self, position):
        self.position = position


class InvalidScripts(SettleError):
    """The scripts are not those of a program with these things."""

    def __init__(self, position):
        self.position = position


class InvalidWeaving(SettleError):
    """A hand of the weaving cannot step there."""

    def __init__(self, position):
        self.position = position


class InvalidPlace(SettleError):
    """What was passed is no place in a list."""

    def __init__(self, value):
        self.value = value


class InvalidText(SettleError):
    """A line of the text is not as it must be."""

    def __init__(self, line):
        self.line = line


class InvalidClaim(SettleError):
    """What was passed is no claim."""

    def __init__(self, value):
        self.value = value


class InvalidCommand(SettleError):
    """What was passed is no command of a desk."""

    def __init__(self, value):
        self.value = value


class MissingError(LookupError):
    """What was asked for is not there."""


class NoSuch(MissingError):
    """There are not so many."""

    def __init__(self, value):
        self.value = value


class StateError(RuntimeError):
    """What was asked for cannot be done with these values together."""


class SharedDeed(StateError):
    """Both things have this deed."""

    def __init__(self, value):
        self.value = value


class OtherThing(StateError):
    """It is a layout of another thing."""

    def __init__(self, value):
        self.value = value


class LastOne(StateError):
    """Without this one nothing would be left."""

    def __init__(self, value):
        self.value = value


class NotInIt(StateError):
    """The order does not have this hand."""

    def __init__(self, hand):
        self.hand = hand


class NotTelling(StateError):
    """The layout does not tell."""

    def __init__(self):
        super().__init__("the layout does not tell")


class NotRecording(StateError):
    """The layout does not record."""

    def __init__(self):
        super().__init__("the layout does not record")


class NotRight(StateError):
    """The program is not right."""

    def __init__(self):
        super().__init__("the program is not right")


class NotCritical(StateError):
    """The weaving is not critical."""

    def __init__(self, value):
        self.value = value


class NothingToUndo(StateError):
    """No change is left that could be taken back."""

    def __init__(self):
        super().__init__("no change is left that could be taken back")


class CommandFailed(StateError):
    """One of several commands raised an error, which is the cause."""

    def __init__(self, position):
        self.position = position


class LimitError(ArithmeticError):
    """There is more than the package takes."""


class TooMany(LimitError):
    """There are more of what is told than the limit allows."""

    def __init__(self, what, limit):
        self.what = what
        self.limit = limit
