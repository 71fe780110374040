"""All orders that the settings of any net lead."""

from switchrows.errors import TooMany
from switchrows.orders import back_of
from switchrows.stuck import told_ways
from switchrows.wholes import many_switches

MOST_FREE = 10


def orders_led(net, stuck):
    """All orders led by settings that agree with stuck switches, rising; or TooMany."""
    refuse_many_free(net, stuck)
    rows = rows_behind(net, told_ways(stuck))
    return tuple(sorted({back_of(row) for row in rows}))


def refuse_many_free(net, stuck):
    """Refuses nets of which more than ten switches are not stuck."""
    if many_switches(net) - len(stuck) > MOST_FREE:
        raise TooMany("more than ten switches are not stuck")


def rows_behind(net, told):
    """The rows that come of each wire's own number by each choice of the ways that are not told."""
    many, stages = net
    rows = [tuple(range(many))]
    # A told switch moves all rows alike, so only the lanes are exchanged: a wire's thing stands in a row at its lane.
    lanes = list(range(many))
    for at, stage in enumerate(stages):
        for number, (a, b) in enumerate(stage):
            way = told.get((at, number))
            if way is None:
                rows = rows + [exchanged(row, lanes[a], lanes[b]) for row in rows]
            elif way == 1:
                lanes[a], lanes[b] = lanes[b], lanes[a]
    return [tuple(row[lane] for lane in lanes) for row in rows]


def exchanged(row, a, b):
    """The row with two things exchanged."""
    things = list(row)
    things[a], things[b] = things[b], things[a]
    return tuple(things)
