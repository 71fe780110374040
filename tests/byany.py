"""Points 31 and 32 reckoned slowly, thing by thing, for tests to hold the program against."""

from itertools import combinations

from switchrows.walking import order_led
from tests.samples import all_settings, switches_of


def wires_on(stage, told, at, wires):
    """The wires at which a thing that may stand at some wires ahead of a stage may stand behind it."""
    found = set()
    for wire in wires:
        switch = [number for number, pair in enumerate(stage) if wire in pair]
        if not switch:
            found.add(wire)
            continue
        other = sum(stage[switch[0]]) - wire
        way = told.get((at, switch[0]))
        if way in (None, 0):
            found.add(wire)
        if way in (None, 1):
            found.add(other)
    return found


def wires_behind(net, told, wire, start, stop):
    """The wires at which a thing at a wire behind so many stages may stand behind more of them."""
    wires = {wire}
    for at in range(start, stop):
        wires = wires_on(net[1][at], told, at, wires)
    return wires


def slow_lost(net, told, order, w):
    return order[w] not in wires_behind(net, told, w, 0, len(net[1]))


def slow_crowd(net, told, order, stage, wires):
    """Whether the things of wires may stand at fewer wires in all, each wire's way on looked for."""
    last = len(net[1])
    rooms = set()
    for w in wires:
        for wire in wires_behind(net, told, w, 0, stage):
            if order[w] in wires_behind(net, told, wire, stage, last):
                rooms.add(wire)
    return len(rooms) < len(wires)


def is_int(thing, bound):
    return type(thing) is int and 0 <= thing < bound


def as_told(stuck):
    return {(stage, number): way for stage, number, way in stuck}


def slow_any_holds(net, told, order, thing):
    """Whether a thing is a paper that none is, the told switches being a dict."""
    many, stages = net
    if type(thing) is not tuple or not thing or type(thing[0]) is not str:
        return False
    if thing[0] == "lost":
        return len(thing) == 2 and is_int(thing[1], many) and slow_lost(net, told, order, thing[1])
    if thing[0] == "crowd":
        if len(thing) != 3 or not is_int(thing[1], len(stages) + 1) or type(thing[2]) is not tuple:
            return False
        wires = thing[2]
        if len(wires) < 2 or not all(is_int(w, many) for w in wires) or list(wires) != sorted(set(wires)):
            return False
        return slow_crowd(net, told, order, thing[1], wires)
    if thing[0] != "case" or len(thing) != 5:
        return False
    if not is_int(thing[1], len(stages)) or not is_int(thing[2], len(stages[thing[1]])) or thing[1:3] in told:
        return False
    return all(slow_any_holds(net, {**told, thing[1:3]: way}, order, thing[3 + way]) for way in (0, 1))


def settings_that_agree(net, told):
    """Every setting of a small net that agrees with the told switches."""
    return [s for s in all_settings(net) if all(s[stage][number] == way for (stage, number), way in told.items())]


def led_orders(net, told):
    """The orders that the settings that agree lead."""
    return {order_led(net, setting) for setting in settings_that_agree(net, told)}


def every_crowd(net, told, order):
    """All crowds that hold."""
    many, stages = net
    return [
        ("crowd", stage, wires)
        for stage in range(len(stages) + 1)
        for size in range(2, many + 1)
        for wires in combinations(range(many), size)
        if slow_crowd(net, told, order, stage, wires)
    ]


def chance_any(net, told, order, chance, kinds=("lost", "crowd", "case")):
    """A paper by the words of point 31, chosen by chance at each depth, of these kinds where it can be."""
    lost = [("lost", w) for w in range(net[0]) if slow_lost(net, told, order, w)]
    crowds = every_crowd(net, told, order) if "crowd" in kinds else []
    free = [place for place in switches_of(net) if place not in told]
    choices = [kind for kind, there in (("lost", lost), ("crowd", crowds), ("case", free)) if there and kind in kinds]
    kind = chance.choice(choices or ["lost"])
    if kind == "case":
        place = chance.choice(free)
        under = [chance_any(net, {**told, place: way}, order, chance, kinds) for way in (0, 1)]
        return ("case", *place, *under)
    return chance.choice(lost if kind == "lost" else crowds)


def any_kinds(paper):
    """The kinds of papers within a paper."""
    kinds = {paper[0]}
    if paper[0] == "case":
        kinds |= any_kinds(paper[3]) | any_kinds(paper[4])
    return kinds
