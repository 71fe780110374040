"""What nets, settings, part orders and orders are."""


def is_number(thing):
    """Whether a thing is a whole number: True and False are ints in Python, but no numbers here."""
    return isinstance(thing, int) and not isinstance(thing, bool)


def is_wire(many, thing):
    """Whether a thing is a wire of so many."""
    return is_number(thing) and 0 <= thing < many


def is_rising_wires(many, thing):
    """Whether a thing is a tuple of wires of so many that rises, none twice."""
    if not isinstance(thing, tuple) or not all(is_wire(many, wire) for wire in thing):
        return False
    return all(one < other for one, other in zip(thing, thing[1:]))


def is_switch(many, thing):
    """Whether a thing is a switch between two of so many wires, the lesser one first."""
    if not isinstance(thing, tuple) or len(thing) != 2:
        return False
    a, b = thing
    return is_wire(many, a) and is_wire(many, b) and a < b


def is_stage(many, thing):
    """Whether a thing is a tuple of rising switches that share no wire."""
    if not isinstance(thing, tuple):
        return False
    used = set()
    ahead = -1
    for switch in thing:
        if not is_switch(many, switch):
            return False
        a, b = switch
        if a <= ahead or a in used or b in used:
            return False
        used.add(a)
        used.add(b)
        ahead = a
    return True


def is_net(thing):
    """Whether a thing is a net."""
    if not isinstance(thing, tuple) or len(thing) != 2:
        return False
    many, stages = thing
    if not is_number(many) or many < 1 or not isinstance(stages, tuple):
        return False
    return all(is_stage(many, stage) for stage in stages)


def is_way(thing):
    """Whether a thing is the way of a switch, straight or crossed."""
    return is_number(thing) and 0 <= thing <= 1


def is_stage_setting(stage, thing):
    """Whether a thing is a tuple with a way for each switch of a stage."""
    if not isinstance(thing, tuple) or len(thing) != len(stage):
        return False
    return all(is_way(way) for way in thing)


def is_setting(net, thing):
    """Whether a thing is a setting of a net."""
    stages = net[1]
    if not isinstance(thing, tuple) or len(thing) != len(stages):
        return False
    return all(is_stage_setting(stage, ways) for stage, ways in zip(stages, thing))


def is_part(many, thing):
    """Whether a thing is a part order of so many wires."""
    if not isinstance(thing, tuple) or len(thing) != many:
        return False
    places = [place for place in thing if place is not None]
    if not all(is_wire(many, place) for place in places):
        return False
    return len(set(places)) == len(places)


def is_order(many, thing):
    """Whether a thing is an order of so many wires: a part order without idle wires."""
    return is_part(many, thing) and None not in thing
