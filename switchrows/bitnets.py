"""Bit nets: which orders plain ones lead, and how many.

In a plain bit net a thing's way hangs on its wire and its place alone; so this is told of part orders, too.
"""

from switchrows.twos import two_to


def bit_net(m, bits):
    """The bit net of m and bits."""
    many = two_to(m)
    return (many, tuple(bit_stage(many, two_to(b)) for b in bits))


def bit_stage(many, step):
    """The switches between wires of so many that are a step apart and unlike in its bit alone."""
    return tuple((a, a + step) for a in range(many) if a // step % 2 == 0)


def stands_at(bits, stages, w, d):
    """The wire at which the thing that goes from w to d stands behind so many stages of a plain bit net."""
    wire = w
    for b in bits[:stages]:
        step = two_to(b)
        wire += (d // step % 2 - wire // step % 2) * step
    return wire


def first_stay(bits, part):
    """The first wire whose thing does not come to its place, or None."""
    for wire, place in enumerate(part):
        if place is not None and stands_at(bits, len(bits), wire, place) != place:
            return wire
    return None


def first_meeting(bits, part):
    """The first stage at which two things want one wire, the least such wire, and where they began; or None."""
    for stage in range(len(bits)):
        meetings = meetings_behind(bits, stage + 1, part)
        if meetings:
            return (stage,) + min(meetings)
    return None


def meetings_behind(bits, stages, part):
    """The wires at which two things would stand behind so many stages, each with the wires where they began."""
    began_at = {}
    meetings = []
    for began, place in enumerate(part):
        if place is not None:
            wire = stands_at(bits, stages, began, place)
            if wire in began_at:
                meetings.append((wire, began_at[wire], began))
            began_at[wire] = began
    return meetings


def wanted_setting(m, bits, part):
    """The setting that crosses the switches at which some thing wants the wire that it is not at."""
    stages = bit_net(m, bits)[1]
    return tuple(wanted_ways(stage, leaving_at(bits, at, part)) for at, stage in enumerate(stages))


def leaving_at(bits, stage, part):
    """The wires that things leave at a stage."""
    left = []
    for began, place in enumerate(part):
        if place is not None:
            wire = stands_at(bits, stage, began, place)
            if stands_at(bits, stage + 1, began, place) != wire:
                left.append(wire)
    return left


def wanted_ways(stage, left):
    """The ways of a stage whose switches are crossed where a thing leaves one of their wires."""
    return tuple(1 if a in left or b in left else 0 for a, b in stage)


def first_trouble(m, bits, order):
    """Why an order is not led by a plain bit net: a thing that stays, else a clash; or None."""
    stay = first_stay(bits, order)
    if stay is not None:
        return ("stays", stay)
    meeting = first_meeting(bits, order)
    return None if meeting is None else ("clash", meeting[0], meeting[1])


def bit_setting(m, bits, order):
    """The one setting of a plain bit net that leads an order, or None."""
    if first_trouble(m, bits, order) is not None:
        return None
    return wanted_setting(m, bits, order)


def many_led(m, bits):
    """How many orders a plain bit net leads: by each of its settings another one."""
    return two_to(len(bits) * two_to(m - 1))
