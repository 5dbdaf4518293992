"""Power: how many hands a thing can settle, shown by layouts that tell, or barred by layouts that do not."""

from settlesfirst.checks import FEWEST_HANDS, GREATEST_POWER, check_number
from settlesfirst.crowds import most_at
from settlesfirst.kinds import is_list
from settlesfirst.layouts import Layout, deeds_at, layout_at_places, teams_of
from settlesfirst.teams import are_all_barred, each_pair, least_bars_at, partners_at
from settlesfirst.telling import blot, is_blot, places_of_two
from settlesfirst.walks import tells_at


def telling_layouts(thing, number):
    """A generator of the layouts for so many hands that tell, sorted."""
    check_number(number)
    rows = thing.rows()
    for state in range(len(rows)):
        partners = partners_at(rows, state)
        for first, second in each_pair(partners, number):
            if tells_at(rows, state, first, second):
                yield layout_at_places(thing, state, first, second)


def how_many(thing, number):
    """How many layouts for so many hands tell."""
    return sum([1 for _ in telling_layouts(thing, number)])


def first_layout(thing, number):
    """The first layout for so many hands that tells; None if there is none."""
    for layout in telling_layouts(thing, number):
        return layout
    return None


def power(thing):
    """The greatest number of hands, at most 4, for which some layout tells; 1 if there is none."""
    return greatest_number(thing, first_layout)


def greatest_number(thing, first_of):
    """The greatest number of hands, at most 4, for which first_of gives a layout of the thing; 1 if there is none."""
    found = 1
    for number in range(FEWEST_HANDS, GREATEST_POWER + 1):
        if first_of(thing, number) is None:
            return found
        found = number
    return found


def serving(thing, number):
    """The sorted list of the states at which some layout of so many hands tells."""
    return sorted(set([layout.state for layout in telling_layouts(thing, number)]))


def least_deeds(thing, number):
    """The lists of deeds that are enough for a layout that tells, but not without one of them."""
    enough = {}
    for layout in telling_layouts(thing, number):
        first, second = teams_of(layout)
        enough[tuple(sorted(set(first + second)))] = True
    least = [places for places in sorted(enough) if not any([is_beyond(places, other) for other in enough])]
    return [deeds_at(thing, places) for places in least]


def is_beyond(places, other):
    """Whether these are all of the other places, and more."""
    return len(places) > len(other) and all([place in places for place in other])


def most(thing, state, one, other):
    """How many hands of team 1 may have the deed other beside one with the deed one; None for all numbers."""
    first, second = places_of_two(thing, state, one, other)
    return most_at(thing.rows(), state, first, second)


def endless(thing):
    """All tuples (state, one, other) whose most is for all numbers, sorted."""
    return triples(thing, is_for_all)


def triples(thing, is_so):
    """All tuples (state, one, other) for which is_so holds by the table, the state and the places; sorted."""
    rows = thing.rows()
    deeds = thing.deeds
    places = range(len(deeds))
    return [
        (state, deeds[one], deeds[other])
        for state in range(len(rows))
        for one in places
        for other in places
        if is_so(rows, state, one, other)
    ]


def is_for_all(rows, state, one, other):
    """Whether the most is for all numbers."""
    return most_at(rows, state, one, other) is None


def is_endless(thing):
    """Whether some most is for all numbers."""
    rows = thing.rows()
    places = range(len(rows[0]))
    for state in range(len(rows)):
        for one in places:
            for other in places:
                if is_for_all(rows, state, one, other):
                    return True
    return False


def least_bars(thing, number):
    """The lesser layouts of at most so many hands that do not tell, but do without any one hand; sorted."""
    check_number(number)
    rows = thing.rows()
    partners = [partners_at(rows, state) for state in range(len(rows))]
    return [
        layout_at_places(thing, state, first, second)
        for hands in range(FEWEST_HANDS, number + 1)
        for state in range(len(rows))
        for first, second in least_bars_at(rows, state, partners[state], hands)
    ]


def bars(thing, number):
    """Bars for so many hands; None if some layout of so many hands tells."""
    if first_layout(thing, number) is not None:
        return None
    return [(layout, blot(layout)) for layout in least_bars(thing, number)]


def are_bars(thing, number, value):
    """Whether any value is a list of bars for so many hands."""
    check_number(number)
    if not is_list(value) or not all([is_bar(thing, number, entry) for entry in value]):
        return False
    rows = thing.rows()
    barring = [[] for _ in rows]
    for layout, _ in value:
        barring[layout.state].append(teams_of(layout))
    return all([are_all_barred(len(rows[0]), teams, number) for teams in barring])


def is_bar(thing, number, value):
    """Whether any value is a tuple of a layout of the thing, of at most so many hands, and a blot of it."""
    if not isinstance(value, tuple) or len(value) != 2:
        return False
    layout, shown = value
    if not isinstance(layout, Layout) or layout.thing != thing or layout.hands > number:
        return False
    return is_blot(layout, shown)
