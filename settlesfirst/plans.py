"""How layouts are made into programs: each team settles a champion among itself first, then both teams settle one.

A turn is what a hand does in one of these layouts. The hands of a team of several have a turn ahead, in a layout of
fewer hands and with a copy of the thing of its own. Nodes have labels until all of them are known.
"""

from settlesfirst.makers import box
from settlesfirst.programs import Program

CHAMPIONS = "abcd"


class Turn:
    """A turn: the layout, the hand's seat in it, the number of its thing, the hands of both teams and their boxes."""

    def __init__(self, layout, seat, at, groups, boxes):
        team = layout.team(seat)
        self.layout = layout
        self.seat = seat
        self.at = at
        self.own = groups[team]
        self.rest = groups[1 - team]
        self.own_box = boxes[team]
        self.rest_box = boxes[1 - team]


def planned(layout, needs_box, nodes_of_turn):
    """The Program for the hands of a layout, by what tells whether a team has a box, and the nodes of each turn."""
    hands = layout.hands
    things = []
    turns = [[] for _ in range(hands)]
    add_turns(layout, list(range(hands)), things, turns, needs_box)
    return Program(things, [script_of(turns[hand], nodes_of_turn) for hand in range(hands)])


def add_turns(layout, members, things, turns, needs_box):
    """Add the turns of these hands in a layout, those of each team ahead, and the things for them."""
    groups = [[], []]
    for seat, member in enumerate(members):
        groups[layout.team(seat)].append(member)
    for group in groups:
        if len(group) > 1:
            add_turns(with_so_many(layout, len(group)), group, things, turns, needs_box)
    at = len(things)
    things.append((layout.thing, layout.state))
    boxes = [None, None]
    for team, group in enumerate(groups):
        if needs_box(layout, team):
            boxes[team] = len(things)
            things.append((box(list(CHAMPIONS[:len(group)])), 0))
    for seat, member in enumerate(members):
        turns[member].append(Turn(layout, seat, at, groups, boxes))


def with_so_many(layout, hands):
    """The Layout without hands, of a team that has several, until there are so many."""
    fewer = layout
    while fewer.hands > hands:
        fewer = fewer.without(0 if len(fewer.first) > 1 else fewer.hands - 1)
    return fewer


def script_of(turns, nodes_of_turn):
    """The script of a hand by its turns."""
    rows = []
    for level, turn in enumerate(turns):
        for champion in turn.own:
            rows.extend(nodes_of_turn(level, turn, champion))
        if len(turn.rest) > 1:
            rows.append((rest_label(level), ("look", turn.rest_box, champions_of(turn, level))))
    last = turns[-1]
    for champion in sorted(last.own + last.rest):
        rows.append((turn_label(len(turns), champion), ("end", champion)))
    return numbered_nodes(rows)


def numbered_nodes(rows):
    """The nodes of tuples (label, node), with numbers in the place of labels."""
    numbers = {label: number for number, (label, _) in enumerate(rows)}
    nodes = []
    for _, node in rows:
        if node[0] == "end":
            nodes.append(node)
        else:
            nodes.append(node[:-1] + ({heard: numbers[label] for heard, label in node[-1].items()},))
    return nodes


def turn_label(level, champion):
    """The label of the first node of a turn for this champion of the own team, or of the end that names it."""
    return ("turn", level, champion)


def rest_label(level):
    """The label of the node that looks which one is the champion of the other team."""
    return ("rest", level, None)


def champions_of(turn, level):
    """The branches of a look at the other team's box, if a champion stands there."""
    return {place + 1: turn_label(level + 1, champion) for place, champion in enumerate(turn.rest)}


def label_behind(turn, level, champion, is_own):
    """The label of the node that follows when the own team, with this champion, began, or the other team did."""
    if is_own:
        return turn_label(level + 1, champion)
    if len(turn.rest) > 1:
        return rest_label(level)
    return turn_label(level + 1, turn.rest[0])


def nodes_of_writing(turn, champion, label, behind):
    """The node that writes this champion of the own team into its box, by its label and the one behind it."""
    deed = CHAMPIONS[turn.own.index(champion)]
    return [(label, ("do", turn.own_box, deed, {0: behind}))]
