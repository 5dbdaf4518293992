"""The words of the document on weavings, with and without falls, followed as plainly as can be."""

import random
from itertools import product

from settlesfirst.programs import Program
from tests.values import some_things


class Walk:
    """What has come of a weaving so far."""

    def __init__(self, program):
        self.scripts = [program.script(hand) for hand in range(program.hands)]
        self.things = [thing for thing, _ in program.things]
        self.states = [state for _, state in program.things]
        self.nodes = [0] * program.hands
        self.stepped = set()
        self.named = set()
        self.bad = False
        self.taken = []

    def can_step(self, hand):
        return self.nodes[hand] is not None and self.scripts[hand][self.nodes[hand]][0] != "end"

    def all_that_can(self):
        return [hand for hand in range(len(self.nodes)) if self.can_step(hand)]

    def names(self):
        """The dict from the hands that are done to those that they name."""
        told = {}
        for hand, node in enumerate(self.nodes):
            if node is not None and self.scripts[hand][node][0] == "end":
                told[hand] = self.scripts[hand][node][1]
        return told

    def step(self, hand):
        node = self.scripts[hand][self.nodes[hand]]
        self.stepped.add(hand)
        if node[0] == "do":
            heard, self.states[node[1]] = self.things[node[1]](self.states[node[1]], node[2])
        else:
            heard = self.states[node[1]]
        self.taken.append((hand, self.nodes[hand], heard))
        self.nodes[hand] = node[-1].get(heard)
        if self.nodes[hand] is None:
            self.bad = True
        elif hand in self.names():
            name = self.names()[hand]
            self.named.add(name)
            if name not in self.stepped or len(self.named) > 1:
                self.bad = True

    def fall(self, hand):
        self.nodes[hand] = 0


def walked(program, weaving):
    """The Walk behind a weaving, with falls or without."""
    walk = Walk(program)
    for step in weaving:
        if isinstance(step, tuple):
            walk.fall(step[1])
        else:
            assert walk.can_step(step)
            walk.step(step)
    return walk


def all_weavings(program):
    """All weavings with their Walks, sorted; each one ahead of those that begin with it."""
    found = []
    ahead = [[]]
    while ahead:
        weaving = ahead.pop()
        walk = walked(program, weaving)
        found.append((weaving, walk))
        ahead.extend([weaving + [hand] for hand in reversed(walk.all_that_can())])
    return found


def is_full(walk):
    return not walk.all_that_can()


def full_weavings(program):
    return [weaving for weaving, walk in all_weavings(program) if is_full(walk)]


def is_right(program):
    return not any(walk.bad for _, walk in all_weavings(program))


def outcomes(program, weaving):
    """Of a right program."""
    found = set()
    for longer, walk in all_weavings(program):
        if longer[:len(weaving)] == list(weaving) and is_full(walk):
            found.update(walk.named)
    return sorted(found)


def all_outcomes(program):
    """The dict from all weavings, as tuples, to their outcomes, of a right program."""
    found = {}
    for weaving, walk in all_weavings(program):
        found.setdefault(tuple(weaving), set())
        if is_full(walk):
            for many in range(len(weaving) + 1):
                found[tuple(weaving[:many])].update(walk.named)
    return {weaving: sorted(names) for weaving, names in found.items()}


def critical_weavings(program):
    found = all_outcomes(program)
    return [list(weaving) for weaving, names in found.items() if len(names) > 1 and not any(
        longer[:-1] == weaving and len(more) > 1 for longer, more in found.items() if longer)]


def weavings_with_falls(program, most):
    """All weavings with falls of at most so many elements, shorter ones first, with their Walks."""
    steps = [("fall", hand) for hand in range(program.hands)]
    found = [([], Walk(program))]
    at = 0
    while at < len(found):
        weaving, walk = found[at]
        at += 1
        if len(weaving) < most:
            for step in walk.all_that_can() + steps:
                longer = weaving + [step]
                found.append((longer, walked(program, longer)))
    return found


def some_programs(many, seed, hands=2, most_nodes=4):
    """So many programs, of which many are not right; with branches that lack and nodes to which no weaving comes."""
    source = random.Random(seed)
    found = []
    things = some_things(40, seed, most_deeds=2, most_states=3, most_answer=1)
    while len(found) < many:
        begun = [(thing, source.randrange(thing.states)) for thing in source.sample(things, source.randint(1, 2))]
        scripts = [some_script(source, begun, hands, source.randint(2, most_nodes)) for _ in range(hands)]
        found.append(Program(begun, scripts))
    return found


def some_script(source, begun, hands, many):
    nodes = []
    for number in range(many):
        if number == many - 1 or (number > 0 and source.random() < 0.3):
            nodes.append(("end", source.randrange(hands)))
            continue
        at = source.randrange(len(begun))
        thing = begun[at][0]
        is_look = source.random() < 0.3
        keys = range(thing.states) if is_look else (0, 1, 7)
        branches = {key: source.randrange(number + 1, many) for key in keys if source.random() < 0.9}
        branches = branches or {0: many - 1}
        nodes.append(("look", at, branches) if is_look else ("do", at, source.choice(thing.deeds), branches))
    return nodes


def some_right_programs(many, seed):
    """So many right programs of two hands: trees of nodes, whose ends are chosen so that they are right."""
    source = random.Random(seed)
    found = []
    some = some_things(30, seed, most_deeds=2, most_states=3, most_answer=1)
    while len(found) < many:
        begun = [(thing, source.randrange(thing.states)) for thing in source.sample(some, source.randint(1, 2))]
        trees = [some_tree(source, begun, source.randint(1, 2)) for _ in range(2)]
        ends = sum(node is None for tree in trees for node in tree)
        if ends > 7:
            continue
        for names in product(range(2), repeat=ends):
            rest = list(names)
            scripts = [[("end", rest.pop()) if node is None else node for node in tree] for tree in trees]
            program = Program(begun, scripts)
            if is_right(program):
                found.append(program)
                break
    return found


def some_tree(source, begun, depth):
    """The nodes of a tree with all branches, None for ends."""
    nodes = []
    ahead = [(None, None, depth)]
    while ahead:
        above, key, left = ahead.pop(0)
        number = len(nodes)
        if above is not None:
            nodes[above][-1][key] = number
        if left == 0 or (above is not None and source.random() < 0.4):
            nodes.append(None)
            continue
        at = source.randrange(len(begun))
        thing = begun[at][0]
        deed = source.choice(thing.deeds)
        if source.random() < 0.25:
            nodes.append(("look", at, {}))
            keys = range(thing.states)
        else:
            nodes.append(("do", at, deed, {}))
            keys = sorted({thing(state, deed)[0] for state in range(thing.states)})
        ahead.extend([(number, key, left - 1) for key in keys])
    return nodes
