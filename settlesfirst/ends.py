"""The ends of both teams of layouts, and which layouts record, with deeds told by their places in the thing."""

from settlesfirst.teams import each_pair
from settlesfirst.walks import each_walk


def ends_at(rows, state, first, second):
    """For each team the dict from its ends to a shortest order, a tuple, that shows them."""
    ends = [{}, {}]
    places = first + second
    for order, _, after in each_walk(rows, state, places):
        ends[0 if order[0] < len(first) else 1].setdefault(after, order)
    return ends


def shared_ends(ends):
    """The sorted list of the common ends of both teams."""
    return sorted([after for after in ends[0] if after in ends[1]])


def team_that_hides(ends, state, first, second):
    """The team that has the layout's own state as an end though the other team has several hands; None."""
    if state in ends[0] and len(second) > 1:
        return 0
    if state in ends[1] and len(first) > 1:
        return 1
    return None


def records_at(rows, state, first, second):
    """Whether the layout records whose teams have the deeds at these places."""
    ends = ends_at(rows, state, first, second)
    return not shared_ends(ends) and team_that_hides(ends, state, first, second) is None


def each_recording(rows, state, number):
    """A generator of the lesser pairs of teams of so many hands that record at this state; sorted.

    What records does so without a hand: so any two places of unlike teams record as two hands.
    """
    places = range(len(rows[0]))
    partners = [[other for other in places if records_at(rows, state, [one], [other])] for one in places]
    for first, second in each_pair(partners, number):
        if records_at(rows, state, first, second):
            yield first, second


def come_to(rows, states, place):
    """The sorted list of these states and those that are come to from them by the deed at this place."""
    met = set(states)
    for state in states:
        after = rows[state][place][1]
        while after not in met:
            met.add(after)
            after = rows[after][place][1]
    return sorted(met)


def records_for_all(rows, state, one, other):
    """Whether it records with one hand with the one deed against any number of hands with the other one.

    The layout's own state is no end of the one hand's team then: one of the others, behind it, would lead to an end of
    both teams.
    """
    ends_of_one = come_to(rows, [rows[state][one][1]], other)
    others_alone = come_to(rows, [rows[state][other][1]], other)
    ends_of_others = come_to(rows, others_alone + [rows[after][one][1] for after in others_alone], other)
    return not any([after in ends_of_others for after in ends_of_one])
