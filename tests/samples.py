"""Things that several tests hand in."""

from itertools import permutations, product


def nested(depth):
    """A thing so many tuples deep."""
    thing = 0
    for _ in range(depth):
        thing = (thing,)
    return thing


# Things that are no net, no setting of a net with switches, no part order of two wires
# and no text of one.
OTHER_THINGS = (
    None,
    True,
    False,
    0,
    1,
    -1,
    2,
    10**39,
    "",
    " ",
    "\n",
    "net",
    "01",
    "~" * 4000,
    "9" * 4000,
    (),
    (None,),
    ("",),
    (0,),
    (0, 1, 2),
    ("0", "1"),
    ((), ()),
    [],
    [None, None],
    [0, 1],
    [1, []],
    {},
    {0: 0, 1: 1},
    {"wires": 2},
    {0: (1, ())},
    nested(30),
    (nested(29), nested(29)),
    [[[[[]]]]],
    tuple(range(19000)),
)

ONE_WIRE = (1, ())
ONE_SWITCH = (2, (((0, 1),),))
THREE = (3, (((0, 1),), ((1, 2),), ((0, 1),)))
MIXED = (4, (((0, 3), (1, 2)), (), ((0, 1), (2, 3)), ((1, 2),)))
EMPTY_STAGES = (3, ((), ()))
SMALL_NETS = (ONE_WIRE, ONE_SWITCH, THREE, MIXED, EMPTY_STAGES, (4, ()), (1, ((), ())))


def all_settings(net):
    """Every setting of a small net."""
    stages = [list(product((0, 1), repeat=len(stage))) for stage in net[1]]
    return [tuple(setting) for setting in product(*stages)]


def all_orders(many):
    """Every order of so many wires, rising."""
    return list(permutations(range(many)))


def constant_setting(net, way):
    """The setting with the same way at each switch."""
    return tuple(tuple(way for _ in stage) for stage in net[1])
