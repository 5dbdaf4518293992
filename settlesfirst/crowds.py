"""One hand against more and more hands of one kind.

A walk is kept as a tuple (state, answer of the one hand, answer of one watched hand of the others, team that began),
with None for what is not there yet. Walks that are kept equal go on in the same way, so each one counts but once:
when the fewest others are enough for it.
"""


def most_at(rows, state, one, other):
    """How many others may be beside the one hand, by the places of both deeds; None for all numbers."""
    known = {}
    begun = {}
    walks = [(state, None, None, None)]
    many = 0
    while walks:
        walks = walks + unknown_walks(known, [step_of_one(rows, walk, one) for walk in walks if walk[1] is None])
        for walk in walks:
            if not gives_away(begun, walk):
                return many - 1
        further = [longer for walk in walks for longer in steps_of_others(rows, walk, other)]
        walks = unknown_walks(known, further)
        many += 1
    return None


def step_of_one(rows, walk, one):
    """The walk behind a step of the one hand."""
    state, _, watched, team = walk
    answer, after = rows[state][one]
    return after, answer, watched, 0 if team is None else team


def steps_of_others(rows, walk, other):
    """The walks behind a step of one of the others: of any one, and of the watched one if it has not stepped."""
    state, heard, watched, team = walk
    answer, after = rows[state][other]
    began = 1 if team is None else team
    longer = [(after, heard, watched, began)]
    if watched is None:
        longer.append((after, heard, answer, began))
    return longer


def unknown_walks(known, walks):
    """The walks that were not known, which are known then."""
    found = []
    for walk in walks:
        if walk not in known:
            known[walk] = True
            found.append(walk)
    return found


def gives_away(begun, walk):
    """Whether no mark of the walk was met with the other team, as far as noted; notes its marks."""
    state, heard, watched, team = walk
    for hand, answer in enumerate((heard, watched)):
        if answer is not None and begun.setdefault((hand, answer, state), team) != team:
            return False
    return True
