"""Whether papers show that no setting of any net leads an order, and what is told of all orders."""

from switchrows.nets import is_order, is_rising_wires, is_setting, is_wire
from switchrows.orders import every_order
from switchrows.reaching import is_crowd, lost_wires
from switchrows.stuck import one_more_told, told_ways
from switchrows.walking import leads


def any_none_holds(net, stuck, order, thing):
    """Whether a thing is a paper that no setting that agrees with stuck switches leads an order."""
    return none_holds(net, told_ways(stuck), order, thing)


def none_holds(net, told, order, thing):
    """The same, by the switches that are told."""
    if not isinstance(thing, tuple) or not thing:
        return False
    kind, *rest = thing
    if kind == "lost" and len(rest) == 1:
        return lost_holds(net, told, order, rest[0])
    if kind == "crowd" and len(rest) == 2:
        return crowd_holds(net, told, order, rest[0], rest[1])
    if kind == "case" and len(rest) == 4:
        return case_holds(net, told, order, rest)
    return False


def lost_holds(net, told, order, thing):
    """Whether a thing is a wire whose thing cannot come to its place."""
    return is_wire(net[0], thing) and thing in lost_wires(net, told, order)


def crowd_holds(net, told, order, stages, wires):
    """Whether two things are a number of stages, and wires whose things have too few wires there."""
    # Stages are counted up to all of them, so there is one number more than there are stages.
    if not is_wire(len(net[1]) + 1, stages) or not is_rising_wires(net[0], wires) or len(wires) < 2:
        return False
    return is_crowd(net, told, order, stages, wires)


def case_holds(net, told, order, rest):
    """Whether these are a switch that is not told, and papers with it straight and crossed."""
    stage, number = rest[0], rest[1]
    if not is_wire(len(net[1]), stage) or not is_wire(len(net[1][stage]), number) or (stage, number) in told:
        return False
    return all(none_holds(net, one_more_told(told, (stage, number), way), order, rest[2 + way]) for way in (0, 1))


def all_holds(net, thing):
    """Whether a thing is a setting for each order, rising, or an order and a paper that it is not led."""
    if not isinstance(thing, tuple) or not thing:
        return False
    kind, *rest = thing
    if kind == "all" and len(rest) == 1:
        return settings_hold(net, rest[0])
    if kind == "lacks" and len(rest) == 2:
        return is_order(net[0], rest[0]) and any_none_holds(net, (), rest[0], rest[1])
    return False


def settings_hold(net, thing):
    """Whether a thing is a tuple with, for each order, rising, a setting that leads it."""
    orders = every_order(net[0])
    if not isinstance(thing, tuple) or len(thing) != len(orders):
        return False
    return all(is_setting(net, setting) and leads(net, setting, order) for setting, order in zip(thing, orders))
