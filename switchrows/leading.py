"""Settings of the whole net and of the spared net for orders, made half by half."""

from switchrows.rings import all_sides, begins_of, ends_of, fixed_sides, halves_of, rings_of, turned_sides


def setting_for(order):
    """The setting of the whole net that leads an order, by fixed sides."""
    if len(order) == 2:
        return one_switch(order)
    sides = fixed_sides(order)
    even, odd = halves_of(order, sides)
    return framed(order, sides, setting_for(even), setting_for(odd))


def spared_setting(order):
    """The setting of the spared net that leads an order."""
    if len(order) == 2:
        return one_switch(order)
    sides = spared_sides(order)
    even, odd = halves_of(order, sides)
    setting = framed(order, sides, spared_setting(even), spared_setting(odd))
    return setting[:-1] + (setting[-1][1:],)


def spared_sides(order):
    """The fixed sides, so turned about that the thing that goes to 0 has side 0."""
    sides = fixed_sides(order)
    wire = order.index(0)
    if sides[wire] == 0:
        return sides
    for ring in rings_of(order):
        if wire in ring:
            sides = turned_sides(sides, ring)
    return sides


def one_switch(part):
    """The setting of the one switch between two wires."""
    # Of two wires a thing's side is its place itself.
    return (asked_ways(begins_of(part), part),)


def framed(part, sides, even, odd):
    """The setting of a net made of halves: the first and last stages by sides, between them those of the halves."""
    first = asked_ways(begins_of(part), sides)
    last = asked_ways(ends_of(part), sides)
    between = tuple(woven(one, other) for one, other in zip(even, odd))
    return (first,) + between + (last,)


def asked_ways(wires, sides):
    """The ways of the switches between mates, as the things that are told there ask by their sides."""
    return tuple(asked_way(one, other, sides) for one, other in zip(wires[::2], wires[1::2]))


def asked_way(one, other, sides):
    """The way of a switch by the side of the thing at its first wire, else of that at its second one."""
    if one is not None:
        return sides[one]
    if other is not None:
        return 1 - sides[other]
    return 0


def woven(even, odd):
    """The ways of one stage of both halves, stage by stage together."""
    return tuple(way for pair in zip(even, odd) for way in pair)


def many_settings(order):
    """How many settings of the whole net lead an order."""
    if len(order) == 2:
        return 1
    many = 0
    for sides in all_sides(order):
        even, odd = halves_of(order, sides)
        many += many_settings(even) * many_settings(odd)
    return many
