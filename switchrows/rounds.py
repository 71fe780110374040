"""Rounds in which things that go by the bits of their own places do not meet, and the load that asks for so many."""

from switchrows.bitnets import first_meeting, stands_at
from switchrows.nets import is_rising_wires


def busy_wires(part):
    """The wires that are not idle, rising."""
    return [wire for wire, place in enumerate(part) if place is not None]


def rounds_of(m, bits, part):
    """The rounds of the going in which at each meeting the thing that began at the lesser wire goes on."""
    rounds = []
    left = busy_wires(part)
    while left:
        through = come_through(bits, part, left)
        rounds.append(tuple(through))
        left = [wire for wire in left if wire not in through]
    return tuple(rounds)


def come_through(bits, part, wires):
    """Those of rising wires whose things, set out together, fall out at no meeting, rising."""
    going = wires
    for stage in range(len(bits)):
        going = going_on(bits, stage + 1, part, going)
    return going


def going_on(bits, stages, part, going):
    """Those of rising wires whose things go on at the last of so many stages, rising."""
    taken = {}
    for began in going:
        # The wires rise, so the lesser one is there first.
        taken.setdefault(stands_at(bits, stages, began, part[began]), began)
    return list(taken.values())


def rounds_hold(m, bits, part, thing):
    """Whether a thing is rounds of a part order."""
    if not isinstance(thing, tuple):
        return False
    if not all(is_rising_wires(len(part), wires) and len(wires) > 0 for wires in thing):
        return False
    if sorted([wire for wires in thing for wire in wires]) != busy_wires(part):
        return False
    return all(first_meeting(bits, part_of_round(part, wires)) is None for wires in thing)


def part_of_round(part, wires):
    """The part order in which only the things of some wires go."""
    return tuple(place if wire in wires else None for wire, place in enumerate(part))


def load_of(m, bits, part):
    """The greatest number of things that want one wire at one stage, the first such stage, and the least wire."""
    load = (0, None, None)
    for stage in range(len(bits)):
        wanting = many_wanting(bits, stage + 1, part)
        for wire in sorted(wanting):
            if wanting[wire] > load[0]:
                load = (wanting[wire], stage, wire)
    return load


def many_wanting(bits, stages, part):
    """For each wire that is wanted at the last of so many stages, how many things want it."""
    wanting = {}
    for began in busy_wires(part):
        wire = stands_at(bits, stages, began, part[began])
        wanting[wire] = wanting.get(wire, 0) + 1
    return wanting
