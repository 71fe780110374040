"""Points 22, 24 and 25 reckoned slowly, thing by thing, for tests to hold the program against."""

from itertools import permutations
from random import Random


def plain_bits(m):
    """All plain bits of m: none, some and all, in any order."""
    return [bits for many in range(m + 1) for bits in permutations(range(m), many)]


def slow_stands(bits, stages, w, d):
    """The wire put together bit by bit."""
    return sum(((d if b in bits[:stages] else w) // 2**b % 2) * 2**b for b in range(12))


def slow_stay(bits, part):
    """The first wire whose thing stays, since it would need a bit that there is no stage for."""
    for w, d in enumerate(part):
        if d is not None and any((w ^ d) // 2**b % 2 for b in range(12) if b not in bits):
            return w
    return None


def next_wire(b, wire, d):
    """The wire that a thing at a wire, on its way to d, wants at a stage of bit b."""
    return wire - wire // 2**b % 2 * 2**b + d // 2**b % 2 * 2**b


def slow_gone(m, bits, part):
    """The things gone stage by stage, each at its wire, till two want one."""
    stay = slow_stay(bits, part)
    if stay is not None:
        return ("stays", stay)
    at = {w: w for w, d in enumerate(part) if d is not None}
    setting = []
    for stage, b in enumerate(bits):
        wants = {w: next_wire(b, wire, part[w]) for w, wire in at.items()}
        for wire in range(2**m):
            two = sorted(w for w in wants if wants[w] == wire)
            if len(two) > 1:
                return ("meet", stage, wire, *two)
        heads = [a for a in range(2**m) if a // 2**b % 2 == 0]
        setting.append(tuple(int(any(wants[w] != at[w] and at[w] in (a, a + 2**b) for w in at)) for a in heads))
        at = wants
    return ("led", tuple(setting))


def slow_trouble(m, bits, order):
    """The first trouble of an order, and its setting."""
    told = slow_gone(m, bits, order)
    if told[0] == "led":
        return None, told[1]
    return (told if told[0] == "stays" else ("clash", *told[1:3])), None


def parts_that_go(m, bits, how_many):
    """Part orders none of whose things stays, with none, some and all wires idle."""
    chance = Random(repr((m, bits)))
    fixed = sum(2**b for b in range(m) if b not in bits)
    parts = [(None,) * 2**m, tuple(range(2**m))]
    for k in range(how_many):
        order = [None] * 2**m
        for kept in {w & fixed for w in range(2**m)}:
            wires = [w for w in range(2**m) if w & fixed == kept]
            for w, d in zip(wires, chance.sample(wires, len(wires))):
                order[w] = d
        share = (0, 10, 50, 90)[k % 4]
        parts.append(tuple(None if chance.randrange(100) < share else d for d in order))
    return parts


def slow_rounds(bits, part):
    """The going of point 25, each thing moved from wire to wire, till all are brought."""
    left = {w for w, d in enumerate(part) if d is not None}
    rounds = []
    while left:
        at = {w: w for w in left}
        for b in bits:
            wants = {w: next_wire(b, wire, part[w]) for w, wire in at.items()}
            at = {w: wire for w, wire in wants.items() if not any(wants[v] == wire for v in wants if v < w)}
        rounds.append(tuple(sorted(at)))
        left -= set(at)
    return tuple(rounds)


def slow_meet(bits, part, v, w):
    """Whether the things of two wires, gone alone together, want one wire somewhere."""
    at, other = v, w
    for b in bits:
        at, other = next_wire(b, at, part[v]), next_wire(b, other, part[w])
        if at == other:
            return True
    return False


def slow_load(m, bits, part):
    """All things counted at all stages and wires, each gone as if it were alone."""
    at = {w: w for w, d in enumerate(part) if d is not None}
    counts = []
    for stage, b in enumerate(bits):
        at = {w: next_wire(b, wire, part[w]) for w, wire in at.items()}
        for wire in range(2**m):
            counts.append((list(at.values()).count(wire), stage, wire))
    greatest = max((count for count, *_ in counts), default=0)
    return (0, None, None) if greatest == 0 else next(row for row in counts if row[0] == greatest)
