"""Critical weavings of right programs: places at which all hangs on the next step."""

from settlesfirst.errors import NotCritical, NotRight
from settlesfirst.kinds import is_list
from settlesfirst.layouts import Layout
from settlesfirst.plays import Play, checked_trail, graph_from, is_graph_right, trail


def outcomes(program, weaving):
    """The sorted list of the names that are told by the full weavings that begin with this one."""
    play = Play(program)
    scene = checked_trail(play, weaving)[-1]
    _, ahead = foreseen(play)
    return ahead[scene]


def is_open(program, weaving):
    """Whether the weaving has several outcomes."""
    return len(outcomes(program, weaving)) > 1


def critical(program):
    """A critical weaving."""
    play = Play(program)
    graph, ahead = foreseen(play)
    here = play.opening
    weaving = []
    further = open_steps(graph, ahead, here)
    while further:
        hand, here = further[0]
        weaving.append(hand)
        further = open_steps(graph, ahead, here)
    return weaving


def is_critical(program, value):
    """Whether any value is a critical weaving of the program, which is right then."""
    if not is_list(value):
        return False
    play = Play(program)
    scenes = trail(play, value)
    if len(scenes) <= len(value):
        return False
    graph = graph_from(play, play.opening)
    return is_graph_right(play, graph) and is_critical_at(graph, names_ahead(play, graph), scenes[-1])


def least_critical(program):
    """How many steps a critical weaving has at the fewest."""
    play = Play(program)
    graph, ahead = foreseen(play)
    many = 0
    scenes = [play.opening]
    while not any([is_critical_at(graph, ahead, here) for here in scenes]):
        many += 1
        behind = {there: True for here in scenes for _, there in open_steps(graph, ahead, here)}
        scenes = list(behind)
    return many


def longest_open(program):
    """How many steps an open weaving has at the most."""
    play = Play(program)
    graph, ahead = foreseen(play)
    longest = {}
    for here in reversed(list(graph)):
        longest[here] = max([1 + longest[there] for _, there in open_steps(graph, ahead, here)], default=0)
    return longest[play.opening]


def next_names(program, weaving):
    """For each hand the name to which its step behind a critical weaving settles."""
    play = Play(program)
    scene = checked_trail(play, weaving)[-1]
    return names_settled(play, scene, weaving)


def layout_at(program, weaving):
    """The thing's number, the Layout that is read off at a critical weaving, and its hands' numbers in the program."""
    play = Play(program)
    scene = checked_trail(play, weaving)[-1]
    names = names_settled(play, scene, weaving)
    nodes = [program.script(hand)[scene[hand]] for hand in range(play.many)]
    number = nodes[0][1]
    thing, _ = program.things[number]
    deeds = thing.deeds
    seats = sorted([(int(name != names[0]), deeds.index(nodes[hand][2]), hand) for hand, name in enumerate(names)])
    teams = [[deeds[place] for team, place, _ in seats if team == told] for told in (0, 1)]
    layout = Layout(thing, scene[play.many + number], teams[0], teams[1])
    return number, layout, [hand for _, _, hand in seats]


def right_graph(play):
    """The graph of all scenes; raises NotRight unless the program is right."""
    graph = graph_from(play, play.opening)
    if not is_graph_right(play, graph):
        raise NotRight()
    return graph


def foreseen(play):
    """The graph of all scenes and their outcomes; raises NotRight unless the program is right."""
    graph = right_graph(play)
    return graph, names_ahead(play, graph)


def names_ahead(play, graph):
    """The dict from the scenes of a right program to the sorted lists of their outcomes."""
    ahead = {}
    for here in reversed(list(graph)):
        named = play.named_in(here)
        if named:
            ahead[here] = [min(list(named.values()))]
        else:
            ahead[here] = sorted(set([name for _, there in graph[here] for name in ahead[there]]))
    return ahead


def open_steps(graph, ahead, scene):
    """The tuples (hand, scene behind its step) of the steps behind which several outcomes are left."""
    return [(hand, there) for hand, there in graph[scene] if len(ahead[there]) > 1]


def is_critical_at(graph, ahead, scene):
    """Whether several outcomes are left in this scene, but only one behind each step."""
    return len(ahead[scene]) > 1 and not open_steps(graph, ahead, scene)


def names_settled(play, scene, weaving):
    """For each hand the name to which its step settles; raises NotRight, or NotCritical unless it is critical."""
    graph, ahead = foreseen(play)
    if not is_critical_at(graph, ahead, scene):
        raise NotCritical(weaving)
    return [ahead[there][0] for _, there in graph[scene]]
