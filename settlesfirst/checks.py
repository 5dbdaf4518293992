"""Checks that several files share: each returns nothing, or raises its error."""

from settlesfirst.errors import InvalidDeeds, InvalidRows, TooMany
from settlesfirst.kinds import is_entry, is_filled_list, is_list, is_name

MOST_DEEDS = 4
MOST_STATES = 8


def check_limit(what, many, limit):
    """Raise TooMany if there are more than the limit."""
    if many > limit:
        raise TooMany(what, limit)


def check_deeds(deeds, known=None):
    """Raise InvalidDeeds unless these are unlike NAMES; where known is told, some of them."""
    if not is_filled_list(deeds):
        raise InvalidDeeds(None)
    ahead = set()
    for place, deed in enumerate(deeds):
        if not is_name(deed) or deed in ahead:
            raise InvalidDeeds(place)
        if known is not None and deed not in known:
            raise InvalidDeeds(place)
        ahead.add(deed)


def is_row(row, deeds, states):
    """Whether any value is a row of a thing with so many deeds and states."""
    if not is_list(row) or len(row) != deeds:
        return False
    return all([is_entry(entry, states) for entry in row])


def check_rows(rows, deeds):
    """Raise InvalidRows unless these may be the rows of a thing with so many deeds."""
    if not is_filled_list(rows):
        raise InvalidRows(None)
    for state, row in enumerate(rows):
        if not is_row(row, deeds, len(rows)):
            raise InvalidRows(state)
