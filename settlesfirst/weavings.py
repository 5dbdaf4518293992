"""Weavings: how the hands of a program step, one behind the other."""

from settlesfirst.errors import InvalidPlace, NoSuch
from settlesfirst.kinds import is_integer, is_list
from settlesfirst.plays import Play, checked_trail, graph_from, trail, way_to


def behind(program, weaving):
    """The nodes of the hands, None of a lost one, and the states of the things behind a weaving."""
    play = Play(program)
    scene = checked_trail(play, weaving)[-1]
    return play.nodes_in(scene), scene[play.many:]


def can_step(program, weaving):
    """The sorted list of the hands that can step behind a weaving."""
    play = Play(program)
    return play.movers(checked_trail(play, weaving)[-1])


def named(program, weaving):
    """The dict from the hands that are done to the hands that they name."""
    play = Play(program)
    return play.named_in(checked_trail(play, weaving)[-1])


def is_bad(program, weaving):
    """Whether the weaving is bad."""
    play = Play(program)
    return any([play.is_spoiled(scene) for scene in checked_trail(play, weaving)])


def is_right(program):
    """Whether no weaving is bad."""
    return quarrel(program) is None


def quarrel(program):
    """A quarrel of the fewest steps; None if the program is right."""
    play = Play(program)
    came = {play.opening: None}
    ahead = [play.opening]
    while ahead:
        further = []
        for here in ahead:
            for hand in play.movers(here):
                there = play.after(here, hand)
                if there in came:
                    continue
                came[there] = (here, hand)
                if play.is_spoiled(there):
                    return way_to(came, there)
                further.append(there)
        ahead = further
    return None


def is_quarrel(program, value):
    """Whether any value is a quarrel."""
    if not is_list(value):
        return False
    play = Play(program)
    scenes = trail(play, value)
    return len(scenes) > len(value) and any([play.is_spoiled(scene) for scene in scenes])


def shortest_quarrel(program):
    """How many steps a quarrel has at the fewest; None if the program is right."""
    found = quarrel(program)
    return None if found is None else len(found)


def ways_to_the_end(graph):
    """The dict from the scenes of a graph to the numbers of ways from there until no hand can step."""
    ways = {}
    for here in reversed(list(graph)):
        steps = graph[here]
        ways[here] = sum([ways[there] for _, there in steps]) if steps else 1
    return ways


def how_many_full(program):
    """How many full weavings there are."""
    play = Play(program)
    return ways_to_the_end(graph_from(play, play.opening))[play.opening]


def full_at(program, place):
    """The full weaving at this place of all, sorted."""
    if not is_integer(place) or place < 0:
        raise InvalidPlace(place)
    play = Play(program)
    graph = graph_from(play, play.opening)
    ways = ways_to_the_end(graph)
    if place >= ways[play.opening]:
        raise NoSuch(place)
    here = play.opening
    left = place
    weaving = []
    while graph[here]:
        for hand, there in graph[here]:
            if left < ways[there]:
                break
            left = left - ways[there]
        weaving.append(hand)
        here = there
    return weaving


def most_steps(program):
    """How many steps a weaving has at the most."""
    play = Play(program)
    graph = graph_from(play, play.opening)
    longest = {}
    for here in reversed(list(graph)):
        longest[here] = max([1 + longest[there] for _, there in graph[here]], default=0)
    return longest[play.opening]


def all_names(program):
    """The sorted list of the hands that are named in some weaving."""
    play = Play(program)
    graph = graph_from(play, play.opening)
    return sorted(set([name for scene in graph for name in play.named_in(scene).values()]))
