"""Layouts that tell: whether what a hand has heard always gives away which team began."""

from settlesfirst.checks import check_hand, is_hand, is_order
from settlesfirst.errors import NotTelling
from settlesfirst.kinds import is_integer
from settlesfirst.layouts import teams_of
from settlesfirst.things import check_deed, check_state
from settlesfirst.walks import commute_at, covers_at, each_walk, is_unseen_at, tells_at


def tells(layout):
    """Whether the layout tells."""
    first, second = teams_of(layout)
    return tells_at(layout.thing.rows(), layout.state, first, second)


def shortest_orders(layout):
    """For each hand the dict from its marks to lists of a shortest order of each team, None if there is none."""
    rows = layout.thing.rows()
    state = layout.state
    first, second = teams_of(layout)
    places = first + second
    found = [{} for _ in places]
    for order, answers, after in each_walk(rows, state, places):
        team = 0 if order[0] < len(first) else 1
        for hand, answer in zip(order, answers):
            orders_by_team = found[hand].setdefault((answer, after), [None, None])
            if orders_by_team[team] is None:
                orders_by_team[team] = list(order)
    return found


def shortest_blots(layout):
    """For each hand and mark that comes in orders of both teams, the blot of two shortest orders."""
    return [
        (hand, pair[0], pair[1])
        for hand, found in enumerate(shortest_orders(layout))
        for pair in found.values()
        if pair[0] is not None and pair[1] is not None
    ]


def blot(layout):
    """A blot; None if the layout tells."""
    blots = shortest_blots(layout)
    return blots[0] if blots else None


def is_blot(layout, value):
    """Whether any value is a blot of the layout."""
    if not isinstance(value, tuple) or len(value) != 3:
        return False
    hand, one, other = value
    if not is_hand(hand, layout.hands):
        return False
    if not is_order(one, layout.hands) or not is_order(other, layout.hands):
        return False
    if layout.team(one[0]) != 0 or layout.team(other[0]) != 1:
        return False
    if hand not in one or hand not in other:
        return False
    return layout.mark(hand, one) == layout.mark(hand, other)


def blotted(layout):
    """The sorted list of the hands that have a blot."""
    return sorted(set([hand for hand, _, _ in shortest_blots(layout)]))


def shortest_blot(layout):
    """How many hands the two orders of a blot have together at the fewest; None if the layout tells."""
    lengths = [len(one) + len(other) for _, one, other in shortest_blots(layout)]
    return min(lengths) if lengths else None


def verdicts(layout):
    """For each hand the dict from its marks to the team with which all their orders begin."""
    if not tells(layout):
        raise NotTelling()
    return [verdicts_of(layout, hand) for hand in range(layout.hands)]


def verdicts_of(layout, hand):
    """The dict from the marks of a hand to their teams, in a layout that tells."""
    return {mark: teams[0] for mark, teams in layout.marks(hand).items()}


def verdict(layout, hand, mark):
    """The team with which all orders begin in which the hand has this mark; None if it is no mark of it."""
    check_hand(hand, layout.hands)
    if not tells(layout):
        raise NotTelling()
    if not isinstance(mark, tuple) or not all([is_integer(part) for part in mark]):
        return None
    return verdicts_of(layout, hand).get(mark)


def answers_tell(layout, hand):
    """Whether no answer of the hand's deed comes in orders that begin with unlike teams."""
    begun = {}
    for (answer, _), teams in layout.marks(hand).items():
        for team in teams:
            if begun.setdefault(answer, team) != team:
                return False
    return True


def states_tell(layout):
    """Whether both teams have no common end."""
    ends = layout.ends(1)
    return not any([state in ends for state in layout.ends(0)])


def places_of_two(thing, state, one, other):
    """The places of two deeds; raises what is wrong with them or the state."""
    check_state(thing, state)
    check_deed(thing, one)
    check_deed(thing, other)
    return thing.deeds.index(one), thing.deeds.index(other)


def commute(thing, state, one, other):
    """Whether both sequences of the two deeds lead to the same state."""
    first, second = places_of_two(thing, state, one, other)
    return commute_at(thing.rows(), state, first, second)


def covers(thing, state, one, other):
    """Whether one covers other."""
    first, second = places_of_two(thing, state, one, other)
    return covers_at(thing.rows(), state, first, second)


def is_unseen(thing, state, one, other):
    """Whether other is unseen by one."""
    first, second = places_of_two(thing, state, one, other)
    return is_unseen_at(thing.rows(), state, first, second)
