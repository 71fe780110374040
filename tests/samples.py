"""Things that several tests hand in."""

from itertools import combinations, permutations, product
from random import Random


def nested(depth):
    """A thing so many tuples deep."""
    thing = 0
    for _ in range(depth):
        thing = (thing,)
    return thing


# Things that are no net, no setting of a net with switches, no part order of two wires
# and no text of one.
OTHER_THINGS = (
    None,
    True,
    False,
    0,
    1,
    -1,
    2,
    10**39,
    "",
    " ",
    "\n",
    "net",
    "01",
    "~" * 4000,
    "9" * 4000,
    (),
    (None,),
    ("",),
    (0,),
    (0, 1, 2),
    ("0", "1"),
    ((), ()),
    [],
    [None, None],
    [0, 1],
    [1, []],
    {},
    {0: 0, 1: 1},
    {"wires": 2},
    {0: (1, ())},
    nested(30),
    (nested(29), nested(29)),
    [[[[[]]]]],
    tuple(range(19000)),
)

ONE_WIRE = (1, ())
ONE_SWITCH = (2, (((0, 1),),))
THREE = (3, (((0, 1),), ((1, 2),), ((0, 1),)))
MIXED = (4, (((0, 3), (1, 2)), (), ((0, 1), (2, 3)), ((1, 2),)))
EMPTY_STAGES = (3, ((), ()))
SMALL_NETS = (ONE_WIRE, ONE_SWITCH, THREE, MIXED, EMPTY_STAGES, (4, ()), (1, ((), ())))


def all_settings(net):
    """Every setting of a small net."""
    stages = [list(product((0, 1), repeat=len(stage))) for stage in net[1]]
    return [tuple(setting) for setting in product(*stages)]


def all_orders(many):
    """Every order of so many wires, rising."""
    return list(permutations(range(many)))


def switches_of(net):
    """Each switch of a net by its stage and its number there, rising."""
    return [(at, number) for at, stage in enumerate(net[1]) for number in range(len(stage))]


def all_stuck(net):
    """All stuck switches of a small net: none, some and all, each way."""
    found = []
    places = switches_of(net)
    for many in range(len(places) + 1):
        for some in combinations(places, many):
            for ways in product((0, 1), repeat=many):
                found.append(tuple((*place, way) for place, way in zip(some, ways)))
    return found


def chance_stuck(net, share, chance):
    """Stuck switches of a net, about so many of a hundred."""
    return tuple((*place, chance.randrange(2)) for place in switches_of(net) if chance.randrange(100) < share)


def all_but(net, free, chance):
    """All switches of a net stuck but so many, chosen by chance."""
    places = switches_of(net)
    left = chance.sample(places, free)
    return tuple((*place, chance.randrange(2)) for place in places if place not in left)


def constant_setting(net, way):
    """The setting with the same way at each switch."""
    return tuple(tuple(way for _ in stage) for stage in net[1])


def turned_order(many, by):
    """Each thing goes so many wires on, the last ones to the first."""
    return tuple((wire + by) % many for wire in range(many))


def mates_kept(many, seed):
    """An order in which things of mates go to mates, so that it has as many rings as can be."""
    chance = Random(seed)
    pairs = list(range(many // 2))
    chance.shuffle(pairs)
    order = []
    for pair in pairs:
        turn = chance.randrange(2)
        order += [2 * pair + turn, 2 * pair + 1 - turn]
    return tuple(order)


def shuffled_orders(many, how_many):
    """So many orders, the same each time."""
    chance = Random(many)
    return [tuple(chance.sample(range(many), many)) for _ in range(how_many)]


def sample_orders(many, how_many):
    """Orders in place, turned, from the last to the first, with many rings, and shuffled ones."""
    own = tuple(range(many))
    orders = [own, own[::-1], turned_order(many, 1), turned_order(many, many - 1), turned_order(many, many // 2)]
    if many % 2 == 0:
        orders += [mates_kept(many, seed) for seed in range(3)]
    return orders + shuffled_orders(many, how_many)


def with_idle(order, seed):
    """A part order made of an order, some of its wires idle."""
    chance = Random(seed)
    share = chance.random()
    return tuple(None if chance.random() < share else place for place in order)


def sample_parts(many, how_many):
    """Part orders with none, all, one, all but one, and some wires idle."""
    own = tuple(range(many))
    parts = [own, (None,) * many, (None,) + own[1:], own[:-1] + (None,)]
    parts += [(None,) * (many - 1) + (0,), (many - 1,) + (None,) * (many - 1)]
    orders = sample_orders(many, how_many)
    return parts + orders[:8] + [with_idle(order, seed) for seed, order in enumerate(orders)]


def all_parts(many):
    """Every part order of so many wires."""
    parts = product((None, *range(many)), repeat=many)
    return [part for part in parts if len({p for p in part if p is not None}) == many - part.count(None)]


def changed(thing):
    """Things made of a thing by one change, at each depth."""
    if type(thing) is int:
        yield from (1 - thing, 2, -1, thing == 1, str(thing), None, (thing,), [thing])
    elif type(thing) is str:
        yield from ("", "One", "halve", thing + " ", thing[:-1], None, 0, True, (thing,), [thing])
    elif type(thing) is tuple:
        yield list(thing)
        yield dict(enumerate(thing))
        yield thing + (0,)
        yield thing + thing[-1:]
        yield from (None, 0, True, "", repr(thing), (thing,), ())
        for at, part in enumerate(thing):
            yield thing[:at] + thing[at + 1 :]
            for other in changed(part):
                yield thing[:at] + (other,) + thing[at + 1 :]
