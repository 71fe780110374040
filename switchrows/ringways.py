"""Which sides of an order, ring by ring, agree with the stuck switches of the first and last stages."""

from switchrows.rings import all_sides, fixed_sides, turned_sides


def size_of(order):
    """The m of an order of 2 ** m wires."""
    return len(order).bit_length() - 1


def ends_agree(order, stuck, sides, wires):
    """Whether the first and last stages' switches of these wires, set by sides, agree with stuck switches."""
    last = 2 * size_of(order) - 2
    asked = {}
    for wire in wires:
        place = order[wire]
        asked[(0, wire // 2)] = (wire + sides[wire]) % 2
        asked[(last, place // 2)] = (place + sides[wire]) % 2
    return all(asked.get((stage, number), way) == way for stage, number, way in stuck)


def agreeing_sides(order, stuck):
    """All sides that fit an order and by which the first and last stages agree with stuck switches, rising."""
    wires = tuple(range(len(order)))
    return [sides for sides in all_sides(order) if ends_agree(order, stuck, sides, wires)]


def is_barred(order, stuck, ring):
    """Whether by neither choice of a ring's sides its switches of the first and last stages agree."""
    one = fixed_sides(order)
    other = turned_sides(one, ring)
    return not ends_agree(order, stuck, one, ring) and not ends_agree(order, stuck, other, ring)
