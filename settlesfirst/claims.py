"""Claims, and the papers that show them."""

from settlesfirst.checks import is_number
from settlesfirst.errors import InvalidClaim
from settlesfirst.falls import fall_blot, is_fall_blot, is_quarrel_with_falls, quarrel_with_falls, records
from settlesfirst.kinds import is_integer, is_list
from settlesfirst.layouts import Layout
from settlesfirst.places import names_ahead
from settlesfirst.plays import Play, graph_from, is_graph_right, trail
from settlesfirst.power import are_bars, bars, endless, first_layout, most
from settlesfirst.programs import Program
from settlesfirst.telling import blot, is_blot, tells, verdicts
from settlesfirst.things import Thing, is_state
from settlesfirst.weavings import is_quarrel, quarrel

PARTS = {
    "tells": ("layout",),
    "blotted": ("layout",),
    "power": ("thing", "number"),
    "no power": ("thing", "number"),
    "endless": ("thing",),
    "wrong": ("program",),
    "open": ("program", "weaving"),
    "records": ("layout",),
    "not recording": ("layout",),
    "wrong with falls": ("program",),
}


def is_claim(value):
    """Whether any value is a claim."""
    if not isinstance(value, tuple) or len(value) < 2 or not isinstance(value[0], str):
        return False
    parts = PARTS.get(value[0], ())
    if len(value) != 1 + len(parts):
        return False
    return all([is_part(part, value, place + 1) for place, part in enumerate(parts)])


def is_part(part, claim, place):
    """Whether what stands at this place of a claim is the part that is told, as far as those ahead of it are right."""
    value = claim[place]
    if part == "layout":
        return isinstance(value, Layout)
    if part == "thing":
        return isinstance(value, Thing)
    if part == "program":
        return isinstance(value, Program)
    if part == "number":
        return is_number(value)
    return isinstance(claim[1], Program) and is_good_weaving(claim[1], value)


def is_good_weaving(program, value):
    """Whether any value is a weaving of the program that is not bad."""
    if not is_list(value):
        return False
    play = Play(program)
    scenes = trail(play, value)
    return len(scenes) > len(value) and not any([play.is_spoiled(scene) for scene in scenes])


def check_claim(value):
    """Raise InvalidClaim unless it is a claim."""
    if not is_claim(value):
        raise InvalidClaim(value)


def is_true(claim):
    """Whether the claim is true."""
    return paper_of(claim) is not None


def paper_of(claim):
    """A paper of the claim; None if it is not true."""
    check_claim(claim)
    about = claim[1]
    match claim[0]:
        case "tells":
            return verdicts(about) if tells(about) else None
        case "blotted":
            return blot(about)
        case "power":
            return first_layout(about, claim[2])
        case "no power":
            return bars(about, claim[2])
        case "endless":
            return first_endless(about)
        case "wrong":
            return quarrel(about)
        case "open":
            return unlike_weavings(about, claim[2])
        case "records":
            return (about.ends(0), about.ends(1)) if records(about) else None
        case "not recording":
            return fall_blot(about)
        case _:
            return quarrel_with_falls(about)


def is_paper(claim, value):
    """Whether any value is a paper of the claim."""
    check_claim(claim)
    about = claim[1]
    match claim[0]:
        case "tells":
            return tells(about) and are_verdicts(about, value)
        case "blotted":
            return is_blot(about, value)
        case "power":
            return isinstance(value, Layout) and value.thing == about and value.hands == claim[2] and tells(value)
        case "no power":
            return are_bars(about, claim[2], value)
        case "endless":
            return is_endless_with(about, value)
        case "wrong":
            return is_quarrel(about, value)
        case "open":
            return are_unlike_weavings(about, claim[2], value)
        case "records":
            return records(about) and are_ends(about, value)
        case "not recording":
            return is_fall_blot(about, value)
        case _:
            return is_quarrel_with_falls(about, value)


def are_verdicts(layout, value):
    """Whether any value is the list of the verdicts of a layout that tells."""
    if not is_list(value) or len(value) != layout.hands:
        return False
    return all([is_like(told, expected) for told, expected in zip(value, verdicts(layout))])


def is_like(told, expected):
    """Whether any value is the dict from marks to teams that is expected."""
    if not isinstance(told, dict) or len(told) != len(expected):
        return False
    for mark, team in told.items():
        if not isinstance(mark, tuple) or not all([is_integer(part) for part in mark]):
            return False
        if not is_integer(team) or expected.get(mark) != team:
            return False
    return True


def first_endless(thing):
    """The first tuple (state, deed, deed) whose most is for all numbers; None if there is none."""
    found = endless(thing)
    return found[0] if found else None


def is_endless_with(thing, value):
    """Whether any value is a tuple (state, deed, deed) whose most is for all numbers."""
    if not isinstance(value, tuple) or len(value) != 3:
        return False
    state, one, other = value
    if not is_state(thing, state) or one not in thing or other not in thing:
        return False
    return most(thing, state, one, other) is None


def are_ends(layout, value):
    """Whether any value is the tuple of the sorted lists of the ends of both teams."""
    if not isinstance(value, tuple) or len(value) != 2:
        return False
    for team, told in enumerate(value):
        if not is_list(told) or not all([is_integer(state) for state in told]) or list(told) != layout.ends(team):
            return False
    return True


def unlike_weavings(program, weaving):
    """Two full weavings that begin with this one and tell unlike names; None if there are none, or it is not right."""
    play = Play(program)
    graph = graph_from(play, play.opening)
    if not is_graph_right(play, graph):
        return None
    ahead = names_ahead(play, graph)
    scene = trail(play, weaving)[-1]
    if len(ahead[scene]) < 2:
        return None
    return [list(weaving) + way_to_name(graph, ahead, scene, name) for name in ahead[scene][:2]]


def way_to_name(graph, ahead, scene, name):
    """The steps from a scene on, until no hand can step, by which this one of its outcomes is told."""
    here = scene
    way = []
    while graph[here]:
        hand, there = [step for step in graph[here] if name in ahead[step[1]]][0]
        way.append(hand)
        here = there
    return way


def are_unlike_weavings(program, weaving, value):
    """Whether any value is a list of two full weavings of a right program as of unlike_weavings."""
    if not is_list(value) or len(value) != 2 or not all([is_list(told) for told in value]):
        return False
    play = Play(program)
    names = []
    for told in value:
        scenes = trail(play, told)
        if len(scenes) <= len(told) or play.movers(scenes[-1]) or list(told[:len(weaving)]) != list(weaving):
            return False
        names.append(sorted(set(list(play.named_in(scenes[-1]).values()))))
    return names[0] != names[1] and is_graph_right(play, graph_from(play, play.opening))
