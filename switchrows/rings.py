"""Orders led by two halves: their rings, the sides that fit, and the orders of the halves.

What needs no rings is told of part orders, too: an order is one without idle wires.
"""

from switchrows.nets import is_way
from switchrows.orders import back_of


def mate_of(wire):
    """The other wire of 2k and 2k + 1."""
    return wire ^ 1


def rings_of(order):
    """The rings of an order, by their first wires."""
    back = back_of(order)
    seen = [False] * len(order)
    rings = []
    for first in range(len(order)):
        if not seen[first]:
            ring = ring_from(order, back, first)
            for wire in ring:
                seen[wire] = True
            rings.append(ring)
    return tuple(rings)


def ring_from(order, back, first):
    """The ring of a wire, by ends and begins in turn."""
    ring = []
    wire = first
    # Only by begins one comes to the first wire again: by ends it is joined to the second one.
    while not ring or wire != first:
        by_ends = back[mate_of(order[wire])]
        ring.append(wire)
        ring.append(by_ends)
        wire = mate_of(by_ends)
    return tuple(ring)


def begins_of(part):
    """For each wire itself, or None where it is idle."""
    return tuple(None if place is None else wire for wire, place in enumerate(part))


def ends_of(part):
    """For each place the wire whose thing goes there, or None."""
    ends = [None] * len(part)
    for wire, place in enumerate(part):
        if place is not None:
            ends[place] = wire
    return tuple(ends)


def sides_fit(order, thing):
    """Whether a thing is sides that fit an order or a part order."""
    if not isinstance(thing, tuple) or len(thing) != len(order):
        return False
    if not all(is_way(side) for side in thing):
        return False
    return mates_unlike(begins_of(order), thing) and mates_unlike(ends_of(order), thing)


def mates_unlike(wires, sides):
    """Whether of wires told by begins or by ends no two at mates have like sides."""
    for one, other in zip(wires[::2], wires[1::2]):
        if one is not None and other is not None and sides[one] == sides[other]:
            return False
    return True


def fixed_sides(order):
    """The sides that fit an order and have 0 at the first wire of each ring."""
    sides = [0] * len(order)
    for ring in rings_of(order):
        for wire in ring[1::2]:
            sides[wire] = 1
    return tuple(sides)


def turned_sides(sides, ring):
    """The sides, those of the wires of one ring turned about."""
    return tuple(1 - side if wire in ring else side for wire, side in enumerate(sides))


def all_sides(order):
    """All sides that fit an order, rising."""
    # Each ring's first wire is its least one, and rings ahead have lesser ones, so the rings' choices rise alike.
    found = [fixed_sides(order)]
    for ring in rings_of(order):
        found = [sides for fixed in found for sides in (fixed, turned_sides(fixed, ring))]
    return found


def halves_of(order, sides):
    """The orders, or part orders, of the even and of the odd half, by sides that fit."""
    return (half_of(order, sides, 0), half_of(order, sides, 1))


def half_of(part, sides, side):
    """The order, or part order, of one half."""
    begins = begins_of(part)
    half = []
    for mates in zip(begins[::2], begins[1::2]):
        places = [part[wire] // 2 for wire in mates if wire is not None and sides[wire] == side]
        half.append(places[0] if places else None)
    return tuple(half)
