"""Layouts: two teams of hands that do deeds of a thing, from one of its states on."""

from math import perm

from settlesfirst.checks import check_hand, check_limit, check_order
from settlesfirst.errors import InvalidLayout, InvalidTeam, LastOne, NotInIt, OtherThing
from settlesfirst.kinds import is_filled_list, is_integer_from
from settlesfirst.teams import are_teams_within
from settlesfirst.things import check_deed, check_state
from settlesfirst.walks import each_walk

MOST_IN_LAYOUT = 5


class Layout:
    """A layout: a thing, a state, and the deeds of the hands of two teams."""

    def __init__(self, thing, state, first, second):
        check_state(thing, state)
        check_deeds_of_team(thing, first)
        check_deeds_of_team(thing, second)
        check_limit("hands", len(first) + len(second), MOST_IN_LAYOUT)
        self._thing = thing
        self._state = state
        self._first = sorted_places(thing, first)
        self._second = sorted_places(thing, second)

    @property
    def thing(self):
        """The thing."""
        return self._thing

    @property
    def state(self):
        """The state from which the deeds are done."""
        return self._state

    @property
    def first(self):
        """The deeds of team 0, in the thing's sequence."""
        return deeds_at(self._thing, self._first)

    @property
    def second(self):
        """The deeds of team 1, in the thing's sequence."""
        return deeds_at(self._thing, self._second)

    @property
    def hands(self):
        """How many hands both teams have together."""
        return len(self._first) + len(self._second)

    def deed(self, hand):
        """The deed of this hand."""
        check_hand(hand, len(self))
        places = self._first + self._second
        return self._thing.deeds[places[hand]]

    def team(self, hand):
        """The team of this hand, 0 or 1."""
        check_hand(hand, len(self))
        return 0 if hand < len(self._first) else 1

    def orders(self):
        """A generator of all orders, shorter ones first, then sorted."""
        rows = self._thing.rows()
        places = self._first + self._second
        for order, _, _ in each_walk(rows, self._state, places):
            yield list(order)

    def how_many_orders(self):
        """How many orders there are."""
        hands = len(self)
        return sum([perm(hands, many) for many in range(1, hands + 1)])

    def behind(self, order):
        """The answers of the hands of an order, and the state behind it."""
        check_order(order, len(self))
        deeds = self.first + self.second
        return self._thing.run(self._state, [deeds[hand] for hand in order])

    def mark(self, hand, order):
        """The mark of this hand in an order: its answer, and the state behind the whole order."""
        check_hand(hand, len(self))
        answers, after = self.behind(order)
        if hand not in order:
            raise NotInIt(hand)
        return answers[order.index(hand)], after

    def marks(self, hand):
        """The dict from the marks of this hand to the teams with which their orders begin."""
        check_hand(hand, len(self))
        rows = self._thing.rows()
        places = self._first + self._second
        begun = {}
        for order, answers, after in each_walk(rows, self._state, places):
            if hand in order:
                mark = (answers[order.index(hand)], after)
                teams = begun.setdefault(mark, [])
                if self.team(order[0]) not in teams:
                    teams.append(self.team(order[0]))
        return {mark: sorted(begun[mark]) for mark in sorted(begun)}

    def ends(self, team):
        """The states behind all orders that begin with this team."""
        check_team(team)
        rows = self._thing.rows()
        places = self._first + self._second
        met = set()
        for order, _, after in each_walk(rows, self._state, places):
            if self.team(order[0]) == team:
                met.add(after)
        return sorted(met)

    def without(self, hand):
        """The Layout without this hand."""
        team = self.team(hand)
        teams = [self.first, self.second]
        if len(teams[team]) == 1:
            raise LastOne(hand)
        del teams[team][hand - team * len(self._first)]
        return Layout(self._thing, self._state, teams[0], teams[1])

    def with_hand(self, team, deed):
        """The Layout with one hand more in this team."""
        check_team(team)
        check_deed(self._thing, deed)
        teams = [self.first, self.second]
        teams[team].append(deed)
        return Layout(self._thing, self._state, teams[0], teams[1])

    def __invert__(self):
        """The Layout with the teams exchanged."""
        return Layout(self._thing, self._state, self.second, self.first)

    def lesser(self):
        """The lesser one of this layout and the one with the teams exchanged."""
        return self if self._first <= self._second else ~self

    def is_within(self, other):
        """Whether each deed stands in each team no more often than in that team of the other one."""
        check_layout(other)
        if self._thing != other._thing or self._state != other._state:
            return False
        return are_teams_within(teams_of(self), teams_of(other))

    @staticmethod
    def of_two(thing, state, one, other):
        """The Layout with one hand in each team."""
        check_state(thing, state)
        check_deed(thing, one)
        check_deed(thing, other)
        return Layout(thing, state, [one], [other])

    def is_ahead_of(self, other):
        """Whether it stands ahead of another layout of the thing when they are sorted."""
        check_layout(other)
        if self._thing != other._thing:
            raise OtherThing(other)
        return rank(self) < rank(other)

    def __len__(self):
        return len(self._first + self._second)

    def __eq__(self, other):
        return (
            isinstance(other, Layout)
            and self._thing == other._thing
            and self._state == other._state
            and self._first == other._first
            and self._second == other._second
        )

    def __repr__(self):
        return f"Layout({self._thing!r}, {self._state!r}, {self.first!r}, {self.second!r})"


def check_deeds_of_team(thing, team):
    """Raise InvalidTeam unless it is a list of one or more deeds of the thing."""
    if not is_filled_list(team) or not all([deed in thing for deed in team]):
        raise InvalidTeam(team)


def check_team(team):
    """Raise InvalidTeam unless it is the number of a team."""
    if not is_integer_from(team, 0, 1):
        raise InvalidTeam(team)


def check_layout(value):
    """Raise InvalidLayout unless it is a Layout."""
    if not isinstance(value, Layout):
        raise InvalidLayout(value)


def sorted_places(thing, deeds):
    """The sorted list of the places of these deeds in the thing."""
    known = thing.deeds
    return sorted([known.index(deed) for deed in deeds])


def deeds_at(thing, places):
    """The list of the deeds of the thing at these places."""
    deeds = thing.deeds
    return [deeds[place] for place in places]


def layout_at_places(thing, state, first, second):
    """The Layout whose teams have the deeds at these places."""
    return Layout(thing, state, deeds_at(thing, first), deeds_at(thing, second))


def teams_of(layout):
    """For each team the list of the places of its deeds in the thing."""
    return list(layout._first), list(layout._second)


def rank(layout):
    """What layouts of one thing are sorted by."""
    return len(layout), layout._state, layout._first, layout._second
