"""Part orders: filled, widened, and led by halves in which idle wires ask for nothing."""

from switchrows.halfpapers import half_paper_holds, setting_by
from switchrows.leading import setting_for
from switchrows.rings import ends_of, halves_of, sides_fit


def filled(part):
    """The order in which the idle wires, rising, go to the wires to which no thing goes, rising."""
    left = [place for place, wire in enumerate(ends_of(part)) if wire is None]
    order = []
    used = 0
    for place in part:
        if place is None:
            order.append(left[used])
            used += 1
        else:
            order.append(place)
    return tuple(order)


def widened(part):
    """The part order of as many wires as the least whole net that has so many, those behind idle."""
    many = 2
    while many < len(part):
        many *= 2
    return part + (None,) * (many - len(part))


def part_setting(part):
    """The setting of the whole net for a part order."""
    return setting_for(filled(part))


def part_sides_fit(part, thing):
    """Whether a thing is sides that fit a part order."""
    return sides_fit(part, thing)


def part_halves(part, sides):
    """The part orders of the even and of the odd half, by sides that fit."""
    return halves_of(part, sides)


def part_paper_holds(part, thing):
    """Whether a thing is a paper of halves of a part order."""
    return half_paper_holds(part, thing)


def part_setting_by(part, paper):
    """The setting of the whole net by a paper of halves that holds."""
    return setting_by(part, paper)
