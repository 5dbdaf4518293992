"""Programs made ready to be stepped through.

A scene is a tuple: for each hand the number of its node, then for each thing its state. In a scene a hand that is lost
has the number behind its last node, and one that is at its first node again, behind a fall, the number behind that: so
the number 0 is only that of hands that have never made a step.
"""

from settlesfirst.checks import is_hand
from settlesfirst.errors import InvalidWeaving
from settlesfirst.kinds import is_list


class Play:
    """A program as it is stepped through: its opening scene, and what each hand does at each node."""

    def __init__(self, program):
        begun = program.things
        scripts = [program.script(hand) for hand in range(program.hands)]
        heard = [heard_in(thing) for thing, _ in begun]
        self.many = len(scripts)
        self.opening = tuple([0 for _ in scripts] + [state for _, state in begun])
        self.moves = [moves_of(script, heard, len(scripts)) for script in scripts]
        self.names = [names_of(script) for script in scripts]
        self.strays = [len(script) for script in scripts]

    def movers(self, scene):
        """The sorted list of the hands that can step."""
        return [hand for hand in range(self.many) if self.moves[hand][scene[hand]] is not None]

    def after(self, scene, hand):
        """The scene behind a step of a hand that can step."""
        place, column, branches = self.moves[hand][scene[hand]]
        heard, state = column[scene[place]]
        changed = list(scene)
        changed[hand] = branches.get(heard, self.strays[hand])
        changed[place] = state
        return tuple(changed)

    def heard(self, scene, hand):
        """What a hand that can step hears with its step."""
        place, column, _ = self.moves[hand][scene[hand]]
        return column[scene[place]][0]

    def named_in(self, scene):
        """The dict from the hands that are done to those that they name."""
        told = {hand: self.names[hand][scene[hand]] for hand in range(self.many)}
        return {hand: name for hand, name in told.items() if name is not None}

    def nodes_in(self, scene):
        """For each hand the number of its node, None of one that is lost; a tuple."""
        called = [{self.strays[hand]: None, self.strays[hand] + 1: 0} for hand in range(self.many)]
        return tuple([called[hand].get(scene[hand], scene[hand]) for hand in range(self.many)])

    def behind_fall(self, scene, hand):
        """The scene behind a fall of a hand."""
        if scene[hand] == 0:
            return scene
        return scene[:hand] + (self.strays[hand] + 1,) + scene[hand + 1:]

    def has_stray(self, scene):
        """Whether a hand is lost."""
        return any([scene[hand] == self.strays[hand] for hand in range(self.many)])

    def is_spoiled(self, scene):
        """Whether a hand is lost, or names one that has made no step, or two name unlike ones."""
        found = None
        for hand in range(self.many):
            node = scene[hand]
            if node == self.strays[hand]:
                return True
            name = self.names[hand][node]
            if name is not None:
                if scene[name] == 0 or (found is not None and found != name):
                    return True
                found = name
        return False


def heard_in(thing):
    """For each deed, and None for a look, the list of the tuples (what is heard, next) by the states."""
    rows = thing.rows()
    heard = {deed: [row[place] for row in rows] for place, deed in enumerate(thing.deeds)}
    heard[None] = [(state, state) for state in range(len(rows))]
    return heard


def moves_of(script, heard, hands):
    """For each number of a node, of a lost hand and of one that fell the move that is made there; None if none is."""
    moves = [move_of(node, heard, hands) for node in script]
    return moves + [None, moves[0]]


def move_of(node, heard, hands):
    """The tuple (place of the thing in a scene, what is heard in it, branches) of a node; None of an end."""
    if node[0] == "end":
        return None
    deed = node[2] if node[0] == "do" else None
    return hands + node[1], heard[node[1]][deed], node[-1]


def names_of(script):
    """For each number as in moves_of the hand that is named there; None if none is."""
    return [node[1] if node[0] == "end" else None for node in script] + [None, None]


def trail(play, weaving):
    """The list of the scenes of a weaving from the opening on, as far as its elements are hands that can step."""
    scenes = [play.opening]
    for hand in weaving:
        here = scenes[-1]
        if not is_hand(hand, play.many) or play.moves[hand][here[hand]] is None:
            return scenes
        scenes.append(play.after(here, hand))
    return scenes


def checked_trail(play, weaving):
    """The list of the scenes of a weaving; raises InvalidWeaving unless it is one."""
    if not is_list(weaving):
        raise InvalidWeaving(None)
    scenes = trail(play, weaving)
    if len(scenes) <= len(weaving):
        raise InvalidWeaving(len(scenes) - 1)
    return scenes


def graph_from(play, scene):
    """The dict from all scenes from this one on to the lists of their tuples (hand, scene behind its step).

    Each scene stands ahead of those to which it leads: each step leads to a greater node.
    """
    found = {scene: None}
    ahead = [scene]
    while ahead:
        here = ahead.pop()
        steps = [(hand, play.after(here, hand)) for hand in play.movers(here)]
        found[here] = steps
        for _, there in steps:
            if there not in found:
                found[there] = None
                ahead.append(there)
    sequence = sorted([(sum(here[:play.many]), here) for here in found])
    return {here: found[here] for _, here in sequence}


def is_graph_right(play, graph):
    """Whether none of these scenes is spoiled."""
    return not any([play.is_spoiled(scene) for scene in graph])


def way_to(came, scene):
    """The list of what was done to come to this scene, by the dict to the tuples (scene ahead, what was done)."""
    way = []
    step = came[scene]
    while step is not None:
        way.append(step[1])
        step = came[step[0]]
    return way[::-1]
