"""Points 13 to 20 reckoned slowly, pair by pair, for tests to hold the program against."""

from itertools import product
from random import Random


def mate(wire):
    return wire + 1 if wire % 2 == 0 else wire - 1


def slow_rings(order):
    """The rings, each step looked for among all wires."""
    many = len(order)
    rings = []
    for first in range(many):
        if any(first in ring for ring in rings):
            continue
        ring = [first]
        while True:
            step = len(ring) % 2
            ends = [w for w in range(many) if order[w] == mate(order[ring[-1]])][0]
            wire = ends if step == 1 else mate(ring[-1])
            if wire == first:
                break
            ring.append(wire)
        rings.append(tuple(ring))
    return tuple(rings)


def is_side(thing):
    return type(thing) is int and thing in (0, 1)


def slow_fit(part, thing):
    """Whether sides fit, each two wires held against one another."""
    many = len(part)
    if type(thing) is not tuple or len(thing) != many or not all(map(is_side, thing)):
        return False
    for v in range(many):
        for w in range(v):
            if part[v] is None or part[w] is None:
                continue
            if (v == mate(w) or part[v] == mate(part[w])) and thing[v] == thing[w]:
                return False
    return True


def slow_halves(part, sides):
    """The part orders of both halves, each thing put where it comes in."""
    halves = [[None] * (len(part) // 2) for _ in range(2)]
    for wire, place in enumerate(part):
        if place is not None:
            halves[sides[wire]][wire // 2] = place // 2
    return tuple(map(tuple, halves))


def slow_ends(part, sides):
    """The ways of the first and of the last stage, as each thing asks; straight where none does."""
    first = [0] * (len(part) // 2)
    last = [0] * (len(part) // 2)
    for wire, place in enumerate(part):
        if place is not None:
            first[wire // 2] = (wire + sides[wire]) % 2
            last[place // 2] = (place + sides[wire]) % 2
    return tuple(first), tuple(last)


def slow_paper_holds(part, thing):
    """Whether a thing is a paper of halves of a part order."""
    if type(thing) is not tuple or not thing or type(thing[0]) is not str:
        return False
    if len(part) == 2:
        return len(thing) == 1 and thing[0] == "one"
    if len(thing) != 4 or thing[0] != "halves" or not slow_fit(part, thing[1]):
        return False
    return all(slow_paper_holds(half, paper) for half, paper in zip(slow_halves(part, thing[1]), thing[2:]))


def slow_setting_by(part, paper):
    """The setting by a paper, the switches of the halves put in between one by one."""
    if len(part) == 2:
        asked = [(wire + place) % 2 for wire, place in enumerate(part) if place is not None]
        return ((asked[0] if asked else 0,),)
    first, last = slow_ends(part, paper[1])
    even, odd = (slow_setting_by(half, under) for half, under in zip(slow_halves(part, paper[1]), paper[2:]))
    between = []
    for t in range(len(even)):
        ways = [None] * (len(part) // 2)
        ways[::2] = even[t]
        ways[1::2] = odd[t]
        between.append(tuple(ways))
    return (first, *between, last)


def slow_fixed(order):
    """The sides that fit and have 0 at each ring's first wire."""
    sides = [None] * len(order)
    for ring in slow_rings(order):
        for at, wire in enumerate(ring):
            sides[wire] = at % 2
    return tuple(sides)


def slow_spared_sides(order):
    """The fixed sides, the ring of the thing that goes to 0 turned about where that thing has 1."""
    sides = list(slow_fixed(order))
    if sides[order.index(0)] == 1:
        for ring in slow_rings(order):
            if order.index(0) in ring:
                for wire in ring:
                    sides[wire] = 1 - sides[wire]
    return tuple(sides)


def every_sides(part):
    """All tuples of 0 and 1 that fit, rising."""
    return [sides for sides in product((0, 1), repeat=len(part)) if slow_fit(part, sides)]


def chance_sides(part, chance):
    """Sides that fit a part order, of its chains and rings each begun by chance; idle wires' by chance, too."""
    many = len(part)
    sides = [None] * many
    for start in range(many):
        if sides[start] is not None:
            continue
        sides[start] = chance.randrange(2)
        waiting = [start]
        while waiting:
            v = waiting.pop()
            for w in range(many):
                near = part[v] is not None and part[w] is not None and w != v
                if near and (w == mate(v) or part[w] == mate(part[v])) and sides[w] is None:
                    sides[w] = 1 - sides[v]
                    waiting.append(w)
    return tuple(sides)


def chance_paper(part, seed):
    """A paper of halves of a part order, by sides chosen by chance at each depth."""
    return paper_by(part, Random(seed))


def paper_by(part, chance):
    if len(part) == 2:
        return ("one",)
    sides = chance_sides(part, chance)
    even, odd = slow_halves(part, sides)
    return ("halves", sides, paper_by(even, chance), paper_by(odd, chance))
