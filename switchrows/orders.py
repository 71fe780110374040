"""Orders turned back, put after one another, odd ones, and all of them."""

from switchrows.nets import is_order


def back_of(order):
    """The order by which each thing comes back."""
    back = [0] * len(order)
    for wire, place in enumerate(order):
        back[place] = wire
    return tuple(back)


def after(one, other):
    """The order in which each thing goes by one, then by the other."""
    return tuple(other[place] for place in one)


def is_odd(order):
    """Whether an order is odd; of all else False is told."""
    if not isinstance(order, tuple) or not is_order(len(order), order):
        return False
    # A circle of k wires is k - 1 exchanges, and each exchange turns odd to even: no need to go through all pairs.
    return (len(order) - many_circles(order)) % 2 == 1


def many_circles(order):
    """How many circles there are, in each of which one comes from wire to place till the first wire again."""
    seen = [False] * len(order)
    circles = 0
    for first in range(len(order)):
        if not seen[first]:
            circles += 1
        wire = first
        while not seen[wire]:
            seen[wire] = True
            wire = order[wire]
    return circles


def every_order(many):
    """All orders of so many wires, rising."""
    orders = [()]
    for wire in range(many):
        orders = [order + (place,) for order in orders for place in range(many) if place not in order]
    return orders
