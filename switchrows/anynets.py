"""Orders led by any net round its stuck switches, or a paper that none of its settings does."""

from switchrows.anyorders import refuse_many_free
from switchrows.errors import TooMany
from switchrows.orders import every_order
from switchrows.reaching import lost_wires
from switchrows.stuck import one_more_told, told_ways

MOST_WIRES_OF_ALL = 4


def led_any(net, stuck, order):
    """A setting that agrees with stuck switches and leads an order, or a paper that none is; or TooMany."""
    refuse_many_free(net, stuck)
    return led_from(net, told_ways(stuck), order)


def led_from(net, told, order):
    """The same, going on from the switches that are told."""
    lost = lost_wires(net, told, order)
    if lost:
        return ("none", ("lost", lost[0]))
    free = first_free(net, told)
    if free is None:
        return ("led", setting_told(net, told))
    papers = []
    for way in (0, 1):
        answer = led_from(net, one_more_told(told, free, way), order)
        if answer[0] == "led":
            return answer
        papers.append(answer[1])
    return ("none", ("case",) + free + tuple(papers))


def first_free(net, told):
    """The first switch that is not told, or None."""
    for at, stage in enumerate(net[1]):
        for number in range(len(stage)):
            if (at, number) not in told:
                return (at, number)
    return None


def setting_told(net, told):
    """The setting of a net whose switches are all told."""
    setting = []
    for at, stage in enumerate(net[1]):
        setting.append(tuple(told[(at, number)] for number in range(len(stage))))
    return tuple(setting)


def all_or_lacks(net):
    """A setting for each order, rising, or the first order that is not led, and a paper; or TooMany."""
    if net[0] > MOST_WIRES_OF_ALL:
        raise TooMany("more than four wires have too many orders to go through")
    settings = []
    for order in every_order(net[0]):
        # A net of more than ten switches is refused here, at the first order.
        answer = led_any(net, (), order)
        if answer[0] == "none":
            return ("lacks", order, answer[1])
        settings.append(answer[1])
    return ("all", tuple(settings))
