"""Checks that several files share: each returns nothing, or raises its error."""

from settlesfirst.errors import InvalidDeeds, InvalidHand, InvalidNumber, InvalidOrder, InvalidRows, TooMany
from settlesfirst.kinds import is_entry, is_filled_list, is_integer_from, is_list, is_name

MOST_DEEDS = 4
MOST_STATES = 8
FEWEST_HANDS = 2
GREATEST_POWER = 4


def check_limit(what, many, limit):
    """Raise TooMany if there are more than the limit."""
    if many > limit:
        raise TooMany(what, limit)


def check_deeds(deeds, known=None):
    """Raise InvalidDeeds unless these are unlike NAMES; where known is told, some of them."""
    if not is_filled_list(deeds):
        raise InvalidDeeds(None)
    ahead = set()
    for place, deed in enumerate(deeds):
        if not is_name(deed) or deed in ahead:
            raise InvalidDeeds(place)
        if known is not None and deed not in known:
            raise InvalidDeeds(place)
        ahead.add(deed)


def is_row(row, deeds, states):
    """Whether any value is a row of a thing with so many deeds and states."""
    if not is_list(row) or len(row) != deeds:
        return False
    return all([is_entry(entry, states) for entry in row])


def check_rows(rows, deeds):
    """Raise InvalidRows unless these may be the rows of a thing with so many deeds."""
    if not is_filled_list(rows):
        raise InvalidRows(None)
    for state, row in enumerate(rows):
        if not is_row(row, deeds, len(rows)):
            raise InvalidRows(state)


def is_hand(value, hands):
    """Whether any value is one of so many hands."""
    return is_integer_from(value, 0, hands - 1)


def check_hand(hand, hands):
    """Raise InvalidHand unless it is one of so many hands."""
    if not is_hand(hand, hands):
        raise InvalidHand(hand)


def is_number(value):
    """Whether any value is a number of hands that a power may tell."""
    return is_integer_from(value, FEWEST_HANDS, GREATEST_POWER)


def check_number(number):
    """Raise InvalidNumber unless it is a number of hands that a power may tell."""
    if not is_number(number):
        raise InvalidNumber(number)


def misplaced(order, hands):
    """The place of the first element that is none of so many hands, or stands ahead; None."""
    ahead = set()
    for place, hand in enumerate(order):
        if not is_hand(hand, hands) or hand in ahead:
            return place
        ahead.add(hand)
    return None


def is_order(value, hands):
    """Whether any value is an order of some of so many hands."""
    return is_filled_list(value) and misplaced(value, hands) is None


def check_order(order, hands):
    """Raise InvalidOrder unless it is an order of some of so many hands."""
    if not is_filled_list(order):
        raise InvalidOrder(None)
    place = misplaced(order, hands)
    if place is not None:
        raise InvalidOrder(place)
