"""The nets that lead every order, and how many switches are needed."""

from switchrows.joining import interleaved


def whole(m):
    """The whole net of m."""
    return net_of_halves(m, 0)


def spared(m):
    """The spared net of m."""
    return net_of_halves(m, 1)


def net_of_halves(m, lacking):
    """The net made of two lesser ones, whose last stages (of m from 2 on) lack so many of the first switches."""
    if m == 1:
        return (2, (((0, 1),),))
    many, between = interleaved(net_of_halves(m - 1, lacking))
    mates = tuple((a, a + 1) for a in range(0, many, 2))
    return (many, (mates,) + between + (mates[lacking:],))


def many_switches(net):
    """The number of switches of a net."""
    return sum(len(stage) for stage in net[1])


def fewest(many):
    """The least number of switches that have as many settings as there are orders of so many wires."""
    orders = 1
    for factor in range(2, many + 1):
        orders *= factor
    switches = 0
    settings = 1
    while settings < orders:
        settings *= 2
        switches += 1
    return switches
