"""Nets turned about, put behind and beside one another, and laid on wires."""


def about(net):
    """The net with its stages from the last to the first."""
    many, stages = net
    return (many, stages[::-1])


def about_setting(setting):
    """The setting of a net, for the net about."""
    return setting[::-1]


def behind(one, other):
    """The net with the stages of one, then those of the other."""
    return (one[0], one[1] + other[1])


def beside(one, other):
    """The net with the wires of one, and behind them those of the other."""
    many = one[0]
    stages = one[1]
    others = tuple(shifted(stage, many) for stage in other[1])
    deep = max(len(stages), len(others))
    return (many + other[0], tuple(stage_at(stages, at) + stage_at(others, at) for at in range(deep)))


def shifted(stage, by):
    """A stage on wires whose numbers are so many more."""
    return tuple((a + by, b + by) for a, b in stage)


def stage_at(stages, at):
    """A stage by its number, without switches where there are no more stages."""
    return stages[at] if at < len(stages) else ()


def laid(net, wires, many):
    """The net laid on rising wires of so many."""
    return (many, tuple(laid_stage(stage, wires) for stage in net[1]))


def laid_stage(stage, wires):
    """A stage laid on wires."""
    return tuple((wires[a], wires[b]) for a, b in stage)


def interleaved(net):
    """The net twice, laid on the even wires and on the odd wires, stage by stage together."""
    many = 2 * net[0]
    evens = laid(net, tuple(range(0, many, 2)), many)
    odds = laid(net, tuple(range(1, many, 2)), many)
    return (many, tuple(tuple(sorted(even + odd)) for even, odd in zip(evens[1], odds[1])))
