"""Whether papers show that no setting of a whole net leads an order round its stuck switches."""

from switchrows.leading import one_switch
from switchrows.nets import is_way, is_wire
from switchrows.rings import halves_of, rings_of
from switchrows.ringways import agreeing_sides, is_barred, size_of
from switchrows.stuck import agrees, stuck_of_half


def around_none_holds(order, stuck, thing):
    """Whether a thing is a paper that no setting that agrees with stuck switches leads an order."""
    if len(order) == 2:
        return thing == ("one",) and not agrees(stuck, one_switch(order))
    if not isinstance(thing, tuple) or len(thing) != 2:
        return False
    kind, told = thing
    if kind == "barred":
        return barred_holds(order, stuck, told)
    return kind == "ways" and ways_hold(order, stuck, told)


def barred_holds(order, stuck, thing):
    """Whether a thing is the first wire of a ring that is barred."""
    # A truth equals a whole number in Python, and so would be found among first wires.
    if not is_wire(len(order), thing):
        return False
    return any(ring[0] == thing and is_barred(order, stuck, ring) for ring in rings_of(order))


def ways_hold(order, stuck, thing):
    """Whether a thing has, for each sides that fit and agree, rising, a row with a paper of one half."""
    sides_left = agreeing_sides(order, stuck)
    if not isinstance(thing, tuple) or len(thing) != len(sides_left):
        return False
    return all(row_holds(order, stuck, sides, row) for sides, row in zip(sides_left, thing))


def row_holds(order, stuck, sides, thing):
    """Whether a thing is a half and a paper that it is not led by these sides."""
    if not isinstance(thing, tuple) or len(thing) != 2:
        return False
    s, paper = thing
    if not is_way(s):
        return False
    half = halves_of(order, sides)[s]
    return around_none_holds(half, stuck_of_half(size_of(order), stuck, s), paper)
