"""Points 22 and 24 reckoned slowly, thing by thing, for tests to hold the program against."""

from itertools import permutations


def plain_bits(m):
    """All plain bits of m: none, some and all, in any order."""
    return [bits for many in range(m + 1) for bits in permutations(range(m), many)]


def slow_stands(bits, stages, w, d):
    """The wire put together bit by bit."""
    return sum(((d if b in bits[:stages] else w) // 2**b % 2) * 2**b for b in range(12))


def slow_stay(bits, part):
    """The first wire whose thing stays, since it would need a bit that there is no stage for."""
    for w, d in enumerate(part):
        if d is not None and any((w ^ d) // 2**b % 2 for b in range(12) if b not in bits):
            return w
    return None


def slow_gone(m, bits, part):
    """The things gone stage by stage, each at its wire, till two want one."""
    stay = slow_stay(bits, part)
    if stay is not None:
        return ("stays", stay)
    at = {w: w for w, d in enumerate(part) if d is not None}
    setting = []
    for stage, b in enumerate(bits):
        wants = {w: wire - wire // 2**b % 2 * 2**b + part[w] // 2**b % 2 * 2**b for w, wire in at.items()}
        for wire in range(2**m):
            two = sorted(w for w in wants if wants[w] == wire)
            if len(two) > 1:
                return ("meet", stage, wire, *two)
        heads = [a for a in range(2**m) if a // 2**b % 2 == 0]
        setting.append(tuple(int(any(wants[w] != at[w] and at[w] in (a, a + 2**b) for w in at)) for a in heads))
        at = wants
    return ("led", tuple(setting))


def slow_trouble(m, bits, order):
    """The first trouble of an order, and its setting."""
    told = slow_gone(m, bits, order)
    if told[0] == "led":
        return None, told[1]
    return (told if told[0] == "stays" else ("clash", *told[1:3])), None
