"""Rows walked through a net, switch by switch."""

from switchrows.orders import back_of


def moved(net, setting, row):
    """The row behind a net, moved by a setting."""
    things = list(row)
    for stage, ways in zip(net[1], setting):
        for (a, b), way in zip(stage, ways):
            if way == 1:
                things[a], things[b] = things[b], things[a]
    return tuple(things)


def order_led(net, setting):
    """The order that tells for each wire where its thing comes to."""
    # The row behind tells for each place who came there, which is the order back.
    return back_of(moved(net, setting, tuple(range(net[0]))))


def leads(net, setting, part):
    """Whether each thing that is not idle comes to the wire told."""
    led = order_led(net, setting)
    return all(place is None or place == came for place, came in zip(part, led))


def way_of(net, setting, wire):
    """The wires at which the thing of a wire stands: at first, and behind each stage."""
    way = [wire]
    for stage, ways in zip(net[1], setting):
        way.append(wire_behind(stage, ways, way[-1]))
    return tuple(way)


def wire_behind(stage, ways, wire):
    """The wire at which the thing of a wire stands behind one stage."""
    for (a, b), way in zip(stage, ways):
        if way == 1 and wire == a:
            return b
        if way == 1 and wire == b:
            return a
    return wire
