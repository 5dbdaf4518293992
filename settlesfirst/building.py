"""Programs that are built of layouts and things, and made out of other programs."""

from settlesfirst.checks import check_hand, check_limit, misplaced
from settlesfirst.errors import InvalidOrder, InvalidThings, NotTelling
from settlesfirst.kinds import is_filled_list, is_list
from settlesfirst.makers import is_box
from settlesfirst.places import right_graph
from settlesfirst.plans import label_behind, nodes_of_writing, planned, turn_label
from settlesfirst.plays import Play, graph_from
from settlesfirst.power import first_layout
from settlesfirst.programs import MOST_HANDS, Program
from settlesfirst.telling import tells, verdicts
from settlesfirst.things import Thing


def program_of(layout):
    """A right program for as many hands, made of the layout's thing."""
    check_limit("hands", layout.hands, MOST_HANDS)
    if not tells(layout):
        raise NotTelling()
    return planned(layout, has_several, nodes_of_turn)


def has_several(layout, team):
    """Whether a team of the layout has several hands, one of which is its champion."""
    return len(layout.first if team == 0 else layout.second) > 1


def nodes_of_turn(level, turn, champion):
    """The labelled nodes of a hand's turn, its own team having this champion: it writes, does its deed and looks."""
    label = turn_label(level, champion)
    rows = []
    if turn.own_box is not None:
        behind = ("deed", level, champion)
        rows.extend(nodes_of_writing(turn, champion, label, behind))
        label = behind
    branches = {}
    looks = []
    for answer, labels in labels_by_answer(level, turn, champion).items():
        told = sorted(set(list(labels.values())))
        if len(told) == 1:
            branches[answer] = told[0]
        else:
            branches[answer] = ("look", level, champion, answer)
            looks.append((branches[answer], ("look", turn.at, labels)))
    rows.append((label, ("do", turn.at, turn.layout.deed(turn.seat), branches)))
    return rows + looks


def labels_by_answer(level, turn, champion):
    """For each answer that the hand may hear the dict from the states that it may see then to the labels to follow."""
    team = turn.layout.team(turn.seat)
    found = {}
    for (answer, state), began in verdicts(turn.layout)[turn.seat].items():
        label = label_behind(turn, level, champion, began == team)
        found.setdefault(answer, {})[state] = label
    return found


def settle(thing, number):
    """A right program for so many hands, made of the thing; None if there is none."""
    layout = first_layout(thing, number)
    return None if layout is None else program_of(layout)


def settle_by(things, number):
    """A right program for so many hands, made of some of these things; None if there is none."""
    check_things(things)
    for thing in things:
        made = settle(thing, number)
        if made is not None:
            return made
    return None


def is_made_of(program, things):
    """Whether each of the program's things is equal to one of these, or a box."""
    check_things(things)
    known = list(things)
    return all([thing in known or is_box(thing) for thing, _ in program.things])


def check_things(things):
    """Raise InvalidThings unless it is a list of at least one Thing."""
    if not is_filled_list(things):
        raise InvalidThings(None)
    for position, thing in enumerate(things):
        if not isinstance(thing, Thing):
            raise InvalidThings(position)


def trimmed(program):
    """The program without the nodes to which no weaving comes, and without the branches that none takes."""
    play = Play(program)
    graph = right_graph(play)
    taken = [{0: {}} for _ in range(play.many)]
    for here, steps in graph.items():
        for hand, there in steps:
            taken[hand].setdefault(there[hand], {})
            taken[hand][here[hand]][play.heard(here, hand)] = True
    scripts = [trimmed_script(program.script(hand), taken[hand]) for hand in range(play.many)]
    return Program(program.things, scripts)


def trimmed_script(script, taken):
    """The nodes that are taken, with numbers of their own, and the branches of each one that are taken."""
    numbers = {node: number for number, node in enumerate(sorted(taken))}
    nodes = []
    for elder in sorted(taken):
        node = script[elder]
        if node[0] == "end":
            nodes.append(node)
        else:
            branches = {heard: numbers[after] for heard, after in node[-1].items() if heard in taken[elder]}
            nodes.append(node[:-1] + (branches,))
    return nodes


def exchanged(program, order):
    """The program in which hand order[k] is called k."""
    check_all_hands(order, program.hands)
    called = {hand: place for place, hand in enumerate(order)}
    scripts = []
    for hand in order:
        script = program.script(hand)
        scripts.append([("end", called[node[1]]) if node[0] == "end" else node for node in script])
    return Program(program.things, scripts)


def check_all_hands(order, hands):
    """Raise InvalidOrder unless it is a list of all so many hands."""
    if not is_list(order) or len(order) != hands:
        raise InvalidOrder(None)
    place = misplaced(order, hands)
    if place is not None:
        raise InvalidOrder(place)


def steps_of(program, hand):
    """How many steps this hand makes at the most in a weaving."""
    check_hand(hand, program.hands)
    play = Play(program)
    graph = graph_from(play, play.opening)
    longest = {}
    for here in reversed(list(graph)):
        longest[here] = max([int(mover == hand) + longest[there] for mover, there in graph[here]], default=0)
    return longest[play.opening]
