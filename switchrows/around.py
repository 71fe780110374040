"""Orders led by a whole net round its stuck switches, or a paper that none of its settings does."""

from switchrows.leading import framed, one_switch
from switchrows.rings import halves_of, rings_of
from switchrows.ringways import agreeing_sides, is_barred, size_of
from switchrows.stuck import agrees, stuck_of_half


def led_around(order, stuck):
    """A setting of the whole net that agrees with stuck switches and leads an order, or a paper that none is."""
    if len(order) == 2:
        return led_by_one(order, stuck)
    for ring in rings_of(order):
        if is_barred(order, stuck, ring):
            return ("none", ("barred", ring[0]))
    rows = []
    for sides in agreeing_sides(order, stuck):
        answer = led_by_sides(order, stuck, sides)
        if answer[0] == "led":
            return answer
        rows.append(answer[1])
    return ("none", ("ways", tuple(rows)))


def led_by_one(order, stuck):
    """The same of two wires."""
    setting = one_switch(order)
    return ("led", setting) if agrees(stuck, setting) else ("none", ("one",))


def led_by_sides(order, stuck, sides):
    """The same by these sides alone; in place of a paper the row that tells the half that is not led, and its paper."""
    settings = []
    for s, half in enumerate(halves_of(order, sides)):
        answer = led_around(half, stuck_of_half(size_of(order), stuck, s))
        if answer[0] == "none":
            return ("none", (s, answer[1]))
        settings.append(answer[1])
    return ("led", framed(order, sides, settings[0], settings[1]))
