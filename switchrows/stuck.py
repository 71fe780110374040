"""Stuck switches, and settings that agree with them."""

from switchrows.nets import is_way, is_wire


def is_stuck_switch(stages, thing):
    """Whether a thing is a switch of these stages with its way."""
    if not isinstance(thing, tuple) or len(thing) != 3:
        return False
    stage, number, way = thing
    # Stages and numbers are counted from 0, as wires are.
    return is_wire(len(stages), stage) and is_wire(len(stages[stage]), number) and is_way(way)


def is_stuck(net, thing):
    """Whether a thing is stuck switches of a net, rising, no switch twice."""
    if not isinstance(thing, tuple):
        return False
    if not all(is_stuck_switch(net[1], switch) for switch in thing):
        return False
    return all(one[:2] < other[:2] for one, other in zip(thing, thing[1:]))


def agrees(stuck, setting):
    """Whether each stuck switch has its way in a setting."""
    return all(setting[stage][number] == way for stage, number, way in stuck)


def stuck_of_half(m, stuck, s):
    """The stuck switches of the half s of the whole net of m."""
    return tuple((stage - 1, number // 2, way) for stage, number, way in stuck
                 if 1 <= stage <= 2 * m - 3 and number % 2 == s)


def told_ways(stuck):
    """For each stuck switch, by its stage and number, its way."""
    return {(stage, number): way for stage, number, way in stuck}


def one_more_told(told, switch, way):
    """The ways of switches, that of one more among them."""
    ways = {place: told[place] for place in told}
    ways[switch] = way
    return ways
