"""Hands that fall and begin anew: layouts that record, weavings with falls, and programs that are right with them."""

from settlesfirst.checks import FEWEST_HANDS, check_limit, check_number, is_hand, is_order
from settlesfirst.ends import each_recording, ends_at, records_at, records_for_all, shared_ends, team_that_hides
from settlesfirst.errors import InvalidNumber, InvalidWeaving, NotRecording
from settlesfirst.kinds import is_integer_from, is_list
from settlesfirst.layouts import layout_at_places, teams_of
from settlesfirst.plans import champions_of, label_behind, nodes_of_writing, planned, turn_label
from settlesfirst.plays import Play, way_to
from settlesfirst.power import greatest_number, triples

MOST_HANDS = 3


def records(layout):
    """Whether the layout records."""
    first, second = teams_of(layout)
    return records_at(layout.thing.rows(), layout.state, first, second)


def fall_blot(layout):
    """A fall blot; None if the layout records."""
    first, second = teams_of(layout)
    state = layout.state
    ends = ends_at(layout.thing.rows(), state, first, second)
    shared = shared_ends(ends)
    if shared:
        return list(ends[0][shared[0]]), list(ends[1][shared[0]])
    team = team_that_hides(ends, state, first, second)
    return None if team is None else (list(ends[team][state]), None)


def is_fall_blot(layout, value):
    """Whether any value is a fall blot of the layout."""
    if not isinstance(value, tuple) or len(value) != 2 or not is_order(value[0], layout.hands):
        return False
    team = layout.team(value[0][0])
    _, state = layout.behind(value[0])
    if value[1] is None:
        others = layout.second if team == 0 else layout.first
        return state == layout.state and len(others) > 1
    if not is_order(value[1], layout.hands) or (team, layout.team(value[1][0])) != (0, 1):
        return False
    return layout.behind(value[1])[1] == state


def recording(thing, number):
    """The list of the layouts for so many hands that record."""
    check_number(number)
    rows = thing.rows()
    return [
        layout_at_places(thing, state, first, second)
        for state in range(len(rows))
        for first, second in each_recording(rows, state, number)
    ]


def first_recording(thing, number):
    """The first layout for so many hands that records; None if there is none."""
    rows = thing.rows()
    for state in range(len(rows)):
        for first, second in each_recording(rows, state, number):
            return layout_at_places(thing, state, first, second)
    return None


def power_with_falls(thing):
    """The greatest number of hands, at most 4, for which some layout records; 1 if there is none."""
    return greatest_number(thing, first_recording)


def endless_with_falls(thing):
    """All tuples (state, one, other) with which any number of hands against one records, sorted."""
    return triples(thing, records_for_all)


def trail_with_falls(play, weaving):
    """The list of the tuples (scene, sorted list of the hands named so far) from the opening on, as of trail."""
    points = [(play.opening, [])]
    for step in weaving:
        scene, named = points[-1]
        if is_fall(play, step):
            points.append((play.behind_fall(scene, step[1]), named))
        elif is_hand(step, play.many) and play.moves[step][scene[step]] is not None:
            there = play.after(scene, step)
            told = list(play.named_in(there).values())
            points.append((there, sorted(set(named + told))))
        else:
            return points
    return points


def is_fall(play, value):
    """Whether any value tells that a hand falls."""
    if not isinstance(value, tuple) or len(value) != 2:
        return False
    return isinstance(value[0], str) and value[0] == "fall" and is_hand(value[1], play.many)


def checked_trail_with_falls(play, weaving):
    """The trail of a weaving with falls; raises InvalidWeaving unless it is one."""
    if not is_list(weaving):
        raise InvalidWeaving(None)
    points = trail_with_falls(play, weaving)
    if len(points) <= len(weaving):
        raise InvalidWeaving(len(points) - 1)
    return points


def is_bad_at(play, scene, named):
    """Whether a hand is lost, or several have been named so far, or one that has never made a step."""
    return play.has_stray(scene) or len(named) > 1 or any([scene[name] == 0 for name in named])


def behind_falls(program, weaving):
    """The nodes, the states, the hands that have ever made a step and those that have been named so far."""
    play = Play(program)
    scene, named = checked_trail_with_falls(play, weaving)[-1]
    stepped = [hand for hand in range(play.many) if scene[hand] != 0]
    return play.nodes_in(scene), scene[play.many:], stepped, list(named)


def is_bad_with_falls(program, weaving):
    """Whether the weaving with falls is bad."""
    play = Play(program)
    return any([is_bad_at(play, scene, named) for scene, named in checked_trail_with_falls(play, weaving)])


def is_right_with_falls(program):
    """Whether no weaving with falls is bad."""
    return quarrel_with_falls(program) is None


def quarrel_with_falls(program):
    """A bad weaving with falls of the fewest elements; None if the program is right with falls."""
    play = Play(program)
    opening = play.opening + (None,)
    came = {opening: None}
    ahead = [opening]
    while ahead:
        further = []
        for here in ahead:
            for step, there in steps_with_falls(play, here):
                if there in came:
                    continue
                came[there] = (here, step)
                if there[-1] == play.many:
                    return way_to(came, there)
                further.append(there)
        ahead = further
    return None


def steps_with_falls(play, scene):
    """The list of the tuples (step or fall, scene behind it), but not of falls that change nothing.

    To each scene the hand is added that has been named so far: None if there is none, and if the weaving is bad the
    number of hands, so all that is bad need not be followed.
    """
    steps = [(hand, noted(play, play.after(scene, hand), hand)) for hand in play.movers(scene)]
    for hand in range(play.many):
        fallen = play.behind_fall(scene, hand)
        if fallen != scene:
            steps.append((("fall", hand), fallen))
    return steps


def noted(play, scene, hand):
    """The scene, and added to it what this hand names behind its step."""
    name = play.names[hand][scene[hand]]
    if name is None and scene[hand] != play.strays[hand]:
        return scene
    if name is None or scene[name] == 0 or scene[-1] not in (None, name):
        return scene[:-1] + (play.many,)
    return scene[:-1] + (name,)


def is_quarrel_with_falls(program, value):
    """Whether any value is a bad weaving with falls."""
    if not is_list(value):
        return False
    play = Play(program)
    points = trail_with_falls(play, value)
    return len(points) > len(value) and any([is_bad_at(play, scene, named) for scene, named in points])


def shortest_with_falls(program):
    """How many elements a bad weaving with falls has at the fewest; None if the program is right with falls."""
    found = quarrel_with_falls(program)
    return None if found is None else len(found)


def program_with_falls(layout):
    """A program for as many hands that is right with falls, made of the layout's thing."""
    check_limit("hands", layout.hands, MOST_HANDS)
    if not records(layout):
        raise NotRecording()
    return planned(layout, needs_box, nodes_of_turn)


def needs_box(layout, team):
    """Whether a team of the layout has several hands, or must show the other one's hand that it has begun."""
    return len(layout.first if team == 0 else layout.second) > 1 or layout.state in layout.ends(team)


def nodes_of_turn(level, turn, champion):
    """The labelled nodes of a hand's turn, its own team having this champion.

    Its deed may have been done ahead of a fall: so it writes and looks first, and does its deed only where nothing is
    seen of any. The layout's own state may also come back, but not without the hand if it is alone in its team: so
    this one looks whether the other team has begun.
    """
    look = turn_label(level, champion)
    deed = ("deed", level, champion)
    again = ("again", level, champion)
    labels = labels_by_state(level, turn, champion)
    state = turn.layout.state
    rows = []
    if turn.own_box is not None:
        behind = ("look", level, champion)
        rows.extend(nodes_of_writing(turn, champion, look, behind))
        look = behind
    if state in turn.layout.ends(1 - turn.layout.team(turn.seat)):
        check = ("check", level, champion)
        champions = champions_of(turn, level)
        rows.append((look, ("look", turn.at, {**labels, state: check})))
        rows.append((check, ("look", turn.rest_box, {**champions, 0: deed})))
    else:
        rows.append((look, ("look", turn.at, {**labels, state: deed})))
    rows.append((deed, ("do", turn.at, turn.layout.deed(turn.seat), {answer: again for answer in answers_to(turn)})))
    rows.append((again, ("look", turn.at, labels)))
    return rows


def answers_to(turn):
    """The sorted list of the answers that a hand may hear in a turn to its deed."""
    thing = turn.layout.thing
    place = thing.deeds.index(turn.layout.deed(turn.seat))
    return sorted(set([row[place][0] for row in thing.rows()]))


def labels_by_state(level, turn, champion):
    """The dict from the ends of both teams to the labels that follow where they are seen."""
    own = turn.layout.team(turn.seat)
    return {
        state: label_behind(turn, level, champion, team == own)
        for team in (0, 1)
        for state in turn.layout.ends(team)
    }


def settle_with_falls(thing, number):
    """A program for so many hands that is right with falls, made of the thing; None if no layout records."""
    if not is_integer_from(number, FEWEST_HANDS, MOST_HANDS):
        raise InvalidNumber(number)
    layout = first_recording(thing, number)
    return None if layout is None else program_with_falls(layout)
