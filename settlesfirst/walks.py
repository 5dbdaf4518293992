"""Orders that are walked through in a table, with deeds told by their places in the thing."""


def each_walk(rows, state, places):
    """A generator of tuples (order, answers, state behind it), shorter orders first, then sorted.

    Hand k has the deed at places[k]; orders and answers are tuples.
    """
    ahead = [((), (), state)]
    for _ in places:
        longer = []
        for order, answers, here in ahead:
            for hand, place in enumerate(places):
                if hand not in order:
                    answer, after = rows[here][place]
                    walk = (order + (hand,), answers + (answer,), after)
                    longer.append(walk)
                    yield walk
        ahead = longer


def tells_at(rows, state, first, second):
    """Whether the layout tells whose teams have the deeds at these places."""
    places = first + second
    begun = {}
    for order, answers, after in each_walk(rows, state, places):
        team = 0 if order[0] < len(first) else 1
        for hand, answer in zip(order, answers):
            if begun.setdefault((hand, answer, after), team) != team:
                return False
    return True


def commute_at(rows, state, one, other):
    """Whether the deeds at both places lead to the same state in both sequences."""
    return rows[rows[state][one][1]][other][1] == rows[rows[state][other][1]][one][1]


def covers_at(rows, state, one, other):
    """Whether the other deed, then the one, lead where the one alone leads."""
    return rows[rows[state][other][1]][one][1] == rows[state][one][1]


def is_unseen_at(rows, state, one, other):
    """Whether who does the one deed never knows if the other one was done ahead of it."""
    if rows[rows[state][other][1]][one][0] != rows[state][one][0]:
        return False
    return covers_at(rows, state, one, other) or commute_at(rows, state, one, other)
