"""Pairs of teams at a state of a thing, each team a sorted list of the places of its deeds in the thing.

Two places are partners if two hands with these deeds, one in each team, tell. What tells does so without a hand, so
in teams that tell, and in least bars of more than two hands, any two places of unlike teams are partners.
"""

from settlesfirst.walks import is_unseen_at, tells_at


def is_team_within(team, other):
    """Whether no place stands more often in the one team than in the other one."""
    return all([team.count(place) <= other.count(place) for place in team])


def are_teams_within(teams, others):
    """Whether both teams are within the others, as they are or exchanged."""
    if is_team_within(teams[0], others[0]) and is_team_within(teams[1], others[1]):
        return True
    return is_team_within(teams[0], others[1]) and is_team_within(teams[1], others[0])


def teams_with_fewer(first, second):
    """The pairs of teams without any one hand whose team has another one."""
    fewer = []
    for at in range(len(first)):
        if len(first) > 1:
            fewer.append((first[:at] + first[at + 1:], second))
    for at in range(len(second)):
        if len(second) > 1:
            fewer.append((first, second[:at] + second[at + 1:]))
    return fewer


def partners_at(rows, state):
    """For the place of each deed the sorted list of its partners at this state."""
    places = range(len(rows[0]))
    return [[other for other in places if are_partners(rows, state, place, other)] for place in places]


def are_partners(rows, state, one, other):
    """Whether neither of the deeds at both places is unseen by the other one: so two hands tell."""
    return not is_unseen_at(rows, state, one, other) and not is_unseen_at(rows, state, other, one)


def each_team(places, many):
    """A generator of all teams of so many hands with deeds at these places; sorted."""
    if many == 0:
        yield []
        return
    fewer = many - 1
    for at, place in enumerate(places):
        not_ahead = places[at:]
        for others in each_team(not_ahead, fewer):
            yield [place] + others


def each_pair_from(partners, first, shared, number):
    """A generator of the pairs as of each_pair whose first team begins with these places, with shared partners."""
    if not shared:
        return
    many = number - len(first)
    for second in each_team(shared, many):
        if first <= second:
            yield first, second
    if many > 1:
        for place in range(first[-1], len(partners)):
            longer = first + [place]
            still_shared = [other for other in shared if other in partners[place]]
            yield from each_pair_from(partners, longer, still_shared, number)


def each_pair(partners, number):
    """A generator of the lesser pairs of so many hands in which all places of unlike teams are partners; sorted."""
    for place, shared in enumerate(partners):
        first = [place]
        yield from each_pair_from(partners, first, shared, number)


def least_bars_at(rows, state, partners, hands):
    """The lesser pairs of so many hands that do not tell, but do without any one hand; sorted."""
    if hands > 2:
        return [(first, second) for first, second in each_pair(partners, hands) if is_least(rows, state, first, second)]
    places = range(len(partners))
    return [([one], [other]) for one in places for other in range(one, len(partners)) if other not in partners[one]]


def is_least(rows, state, first, second):
    """Whether these teams do not tell, but do without any one hand."""
    if tells_at(rows, state, first, second):
        return False
    return all([tells_at(rows, state, one, other) for one, other in teams_with_fewer(first, second)])


def are_all_barred(deeds, barring, number):
    """Whether each pair of teams of so many hands, with so many deeds in the thing, has one of these within it."""
    closed = {}
    larger = []
    for first, second in barring:
        if len(first) + len(second) > 2:
            larger.append((first, second))
        else:
            closed[(first[0], second[0])] = True
            closed[(second[0], first[0])] = True
    partners = [[other for other in range(deeds) if (one, other) not in closed] for one in range(deeds)]
    for teams in each_pair(partners, number):
        if not any([are_teams_within(bar, teams) for bar in larger]):
            return False
    return True
