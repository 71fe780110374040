"""Where things may come to in any net, some switches told and the others free to go either way.

A set of things is a whole number with the bit w for the thing of wire w: so one pass through the net tells of all.
"""


def thing_bits(many):
    """For each wire the whole number that has the bit of its thing alone."""
    bits = []
    bit = 1
    for wire in range(many):
        bits.append(bit)
        bit *= 2
    return bits


def spread(net, told, sets, at):
    """Changes the sets of things at each wire ahead of a stage to those behind it; or those behind to those ahead."""
    for number, (a, b) in enumerate(net[1][at]):
        way = told.get((at, number))
        if way is None:
            sets[a] = sets[b] = sets[a] | sets[b]
        elif way == 1:
            sets[a], sets[b] = sets[b], sets[a]


def may_come(net, told, stages):
    """For each wire the things that may stand there behind so many stages."""
    sets = thing_bits(net[0])
    for at in range(stages):
        spread(net, told, sets, at)
    return sets


def may_go(net, told, order, stages):
    """For each wire the things that have a way from there, behind so many stages, to their places."""
    sets = [0] * net[0]
    for place, bit in zip(order, thing_bits(net[0])):
        sets[place] = bit
    for at in reversed(range(stages, len(net[1]))):
        spread(net, told, sets, at)
    return sets


def lost_wires(net, told, order):
    """The wires whose things cannot come to their places, rising."""
    sets = may_come(net, told, len(net[1]))
    return [wire for wire, bit in enumerate(thing_bits(net[0])) if sets[order[wire]] & bit == 0]


def is_crowd(net, told, order, stages, wires):
    """Whether behind so many stages there are fewer wires for the things of these wires than there are of them."""
    bits = thing_bits(net[0])
    crowd = sum([bits[wire] for wire in wires])
    come = may_come(net, told, stages)
    go = may_go(net, told, order, stages)
    return len([wire for wire in range(net[0]) if come[wire] & go[wire] & crowd]) < len(wires)
