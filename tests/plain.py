"""The words of the document on layouts, followed as plainly as can be, to compare the package with."""

from itertools import combinations_with_replacement, permutations

from settlesfirst.layouts import Layout


def orders(hands):
    """All orders of so many hands, shorter ones first, then sorted."""
    return [list(order) for many in range(1, hands + 1) for order in sorted(permutations(range(hands), many))]


def done(thing, state, deeds):
    """The answers of these deeds, and the state behind them."""
    answers = []
    for deed in deeds:
        answer, state = thing(state, deed)
        answers.append(answer)
    return answers, state


def deeds(layout):
    return layout.first + layout.second


def team(layout, hand):
    return 0 if hand < len(layout.first) else 1


def mark(layout, hand, order):
    answers, state = done(layout.thing, layout.state, [deeds(layout)[each] for each in order])
    return answers[order.index(hand)], state


KEPT_MARKS = {}


def marks(layout, hand):
    """The dict from the marks of this hand to the orders in which it has them; kept, since it is asked for often."""
    key = (repr(layout), hand)
    if key not in KEPT_MARKS:
        found = {}
        for order in orders(len(deeds(layout))):
            if hand in order:
                found.setdefault(mark(layout, hand, order), []).append(order)
        KEPT_MARKS[key] = found
    return KEPT_MARKS[key]


def begun(layout, some_orders):
    return sorted({team(layout, order[0]) for order in some_orders})


def tells(layout):
    for hand in range(len(deeds(layout))):
        for some_orders in marks(layout, hand).values():
            if len(begun(layout, some_orders)) > 1:
                return False
    return True


def ends(layout, number):
    found = set()
    for order in orders(len(deeds(layout))):
        if team(layout, order[0]) == number:
            found.add(done(layout.thing, layout.state, [deeds(layout)[each] for each in order])[1])
    return sorted(found)


def blots(layout):
    """All blots, as tuples of a hand and two tuples."""
    found = []
    many = len(layout.first)
    for hand in range(len(deeds(layout))):
        for some_orders in marks(layout, hand).values():
            ones = [tuple(order) for order in some_orders if order[0] < many]
            others = [tuple(order) for order in some_orders if order[0] >= many]
            found += [(hand, one, other) for one in ones for other in others]
    return found


def places(thing, some_deeds):
    return [thing.deeds.index(deed) for deed in some_deeds]


def layouts(thing, number):
    """The layouts for so many hands, as of [41]."""
    found = []
    for state in range(thing.states):
        for many in range(1, number):
            for first in combinations_with_replacement(range(len(thing.deeds)), many):
                for second in combinations_with_replacement(range(len(thing.deeds)), number - many):
                    if list(first) <= list(second):
                        found.append((state, list(first), list(second)))
    return [Layout(thing, state, [thing.deeds[place] for place in first], [thing.deeds[place] for place in second])
            for state, first, second in sorted(found)]


def is_within(layout, other):
    if layout.thing != other.thing or layout.state != other.state:
        return False
    for first, second in ((other.first, other.second), (other.second, other.first)):
        if all(layout.first.count(deed) <= first.count(deed) for deed in layout.thing.deeds):
            if all(layout.second.count(deed) <= second.count(deed) for deed in layout.thing.deeds):
                return True
    return False


def with_fewer(layout):
    """The layouts without any one hand whose team has another one."""
    found = []
    for at in range(len(layout.first)):
        if len(layout.first) > 1:
            rest = layout.first[:at] + layout.first[at + 1:]
            found.append(Layout(layout.thing, layout.state, rest, layout.second))
    for at in range(len(layout.second)):
        if len(layout.second) > 1:
            rest = layout.second[:at] + layout.second[at + 1:]
            found.append(Layout(layout.thing, layout.state, layout.first, rest))
    return found


def least_bars(thing, number):
    return [layout for hands in range(2, number + 1) for layout in layouts(thing, hands)
            if not tells(layout) and all(tells(fewer) for fewer in with_fewer(layout))]


def are_bars(thing, number, value):
    """Of a list of tuples of a layout of the thing and a blot of it, of so many hands at the most."""
    return all(any(is_within(layout, other) for layout, _ in value) for other in layouts(thing, number))


def crowd_tells(thing, state, one, other, many):
    """Whether the layout tells with one hand of team 0, and so many of team 1; of any size."""
    began = {}
    for others in range(many + 1):
        for at in [None] + list(range(others + 1)):
            word = [other] * others
            if at is not None:
                word.insert(at, one)
            answers, end = done(thing, state, word)
            for place, answer in enumerate(answers):
                hand = "one" if place == at else "others"
                began.setdefault((hand, answer, end), set()).add(at == 0)
    return all(len(found) == 1 for found in began.values())


def most(thing, state, one, other):
    """The most; None for all numbers, of which three times as many hands as there are states are enough."""
    for many in range(1, 3 * thing.states + 1):
        if not crowd_tells(thing, state, one, other, many):
            return many - 1
    return None


def hides(layout, number):
    """Whether the layout's own state is an end of this team, though the other team has several hands."""
    other = layout.second if number == 0 else layout.first
    return layout.state in ends(layout, number) and len(other) > 1


def records(layout):
    return not set(ends(layout, 0)) & set(ends(layout, 1)) and not hides(layout, 0) and not hides(layout, 1)


def fall_blots(layout):
    """All fall blots, as tuples of two tuples, or of one and None."""
    behind = {0: [], 1: []}
    for order in orders(len(deeds(layout))):
        _, state = done(layout.thing, layout.state, [deeds(layout)[each] for each in order])
        behind[team(layout, order[0])].append((tuple(order), state))
    found = [(one, other) for one, state in behind[0] for other, same in behind[1] if state == same]
    for number, others in ((0, layout.second), (1, layout.first)):
        found += [(order, None) for order, state in behind[number] if state == layout.state and len(others) > 1]
    return found


def crowd_records(thing, state, one, other, many):
    """Whether the layout records with one hand of team 0, and so many of team 1; of any size."""
    ends_of_one, ends_of_others = set(), set()
    for others in range(many + 1):
        ends_of_one.add(done(thing, state, [one] + [other] * others)[1])
        if others > 0:
            ends_of_others.add(done(thing, state, [other] * others)[1])
            for at in range(1, others + 1):
                word = [other] * others
                word.insert(at, one)
                ends_of_others.add(done(thing, state, word)[1])
    return not ends_of_one & ends_of_others and not (state in ends_of_one and many > 1)
