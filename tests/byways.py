"""Points 29 and 30 reckoned slowly, clause by clause, for tests to hold the program against."""

from functools import lru_cache

from tests.byhalves import every_sides, slow_ends, slow_halves, slow_rings

many_sides = lru_cache(None)(every_sides)


def slow_agrees(stuck, setting):
    return all(setting[stage][number] == way for stage, number, way in stuck)


def slow_half_stuck(m, stuck, s):
    """The stuck switches of a half, each of those that there may be looked for."""
    every = [(t, j, way) for t in range(2 * m - 3) for j in range(2 ** (m - 2)) for way in (0, 1)]
    return tuple((t, j, way) for t, j, way in every if (t + 1, 2 * j + s, way) in stuck)


def size(order):
    return {2: 1, 4: 2, 8: 3, 16: 4}[len(order)]


def one_holds(order, stuck):
    """Whether of two wires the switch is stuck, and not as the order asks."""
    return (0, 0, 1 - order[0]) in stuck


def barred_holds(order, stuck, w):
    """Whether a wire is the first one of a ring neither of whose choices agrees."""
    rings = [ring for ring in slow_rings(order) if ring[0] == w]
    return bool(rings) and not any(ring_agrees(order, stuck, rings[0], choice) for choice in (0, 1))


def ring_agrees(order, stuck, ring, choice):
    """Whether by a choice of a ring's sides its own switches of the first and last stages agree."""
    sides = [0] * len(order)
    for at, wire in enumerate(ring):
        sides[wire] = (choice + at) % 2
    first, last = slow_ends(order, sides)
    starts = {wire // 2 for wire in ring}
    stops = {order[wire] // 2 for wire in ring}
    for stage, number, way in stuck:
        if stage == 0 and number in starts and first[number] != way:
            return False
        if stage == 2 * size(order) - 2 and number in stops and last[number] != way:
            return False
    return True


def sides_left(order, stuck):
    """All sides that fit and by which the first and last stages agree, rising."""
    found = []
    for sides in many_sides(order):
        first, last = slow_ends(order, sides)
        ways = {0: first, 2 * size(order) - 2: last}
        if all(ways[stage][number] == way for stage, number, way in stuck if stage in ways):
            found.append(sides)
    return found


def half(order, stuck, sides, s):
    """The order and the stuck switches of a half."""
    return slow_halves(order, sides)[s], slow_half_stuck(size(order), stuck, s)


def slow_none_holds(order, stuck, thing):
    """Whether a thing is a paper that none is."""
    if type(thing) is not tuple or not thing or type(thing[0]) is not str:
        return False
    if len(order) == 2:
        return len(thing) == 1 and thing[0] == "one" and one_holds(order, stuck)
    if len(thing) != 2:
        return False
    if thing[0] == "barred":
        return type(thing[1]) is int and barred_holds(order, stuck, thing[1])
    if thing[0] != "ways" or type(thing[1]) is not tuple:
        return False
    left = sides_left(order, stuck)
    return len(left) == len(thing[1]) and all(
        type(row) is tuple
        and len(row) == 2
        and type(row[0]) is int
        and row[0] in (0, 1)
        and slow_none_holds(*half(order, stuck, sides, row[0]), row[1])
        for sides, row in zip(left, thing[1])
    )


@lru_cache(None)
def slow_led(order, stuck):
    """Whether some setting that agrees leads an order, by all sides of all halves."""
    if len(order) == 2:
        return not one_holds(order, stuck)
    return any(all(slow_led(*half(order, stuck, sides, s)) for s in (0, 1)) for sides in sides_left(order, stuck))


def chance_none(order, stuck, chance):
    """A paper that none is by the words of point 30, chosen by chance at each depth; None where there is none."""
    if slow_led(order, stuck):
        return None
    if len(order) == 2:
        return ("one",)
    barred = [ring[0] for ring in slow_rings(order) if barred_holds(order, stuck, ring[0])]
    if barred and chance.randrange(2):
        return ("barred", chance.choice(barred))
    rows = []
    for sides in sides_left(order, stuck):
        halves = [s for s in (0, 1) if not slow_led(*half(order, stuck, sides, s))]
        s = chance.choice(halves)
        rows.append((s, chance_none(*half(order, stuck, sides, s), chance)))
    return ("ways", tuple(rows))


def kinds_of(paper, ahead=()):
    """The kinds of papers within a paper, each with those around it."""
    kinds = {ahead + (paper[0],)}
    if paper[0] == "ways":
        for row in paper[1]:
            kinds |= kinds_of(row[1], ahead + ("ways",))
    return kinds
