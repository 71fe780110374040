"""Points 26 and 27: nets whose switches set themselves by comparing, and rows that they don't sort."""

import unittest
from itertools import product
from random import Random

from switchrows.comparing import compared, unsorted
from switchrows.errors import TooMany
from switchrows.joining import about, behind, beside, laid
from switchrows.nets import is_setting
from switchrows.sorters import merger, sorter
from switchrows.walking import moved
from switchrows.wholes import spared, whole
from tests.asking import AskingTest
from tests.samples import EMPTY_STAGES, MIXED, ONE_SWITCH, ONE_WIRE, SMALL_NETS, THREE

GREAT = 10**39


def bricks(many):
    """The net of so many wires with neighbours compared by turns, as many stages as wires: it sorts."""
    stages = [tuple((a, a + 1) for a in range(at % 2, many - 1, 2)) for at in range(many)]
    return (many, tuple(stages))


def without(net, place):
    """The net without one of its switches."""
    at, number = place
    stage = net[1][at]
    return (net[0], net[1][:at] + (stage[:number] + stage[number + 1 :],) + net[1][at + 1 :])


def slow_compared(net, row):
    """Switch by switch, each written into its own place."""
    things = dict(enumerate(row))
    setting = []
    for stage in net[1]:
        ways = []
        for a, b in stage:
            ways.append(int(things[a] > things[b]))
            things[a], things[b] = min(things[a], things[b]), max(things[a], things[b])
        setting.append(tuple(ways))
    return tuple(things[w] for w in range(net[0])), tuple(setting)


def slow_unsorted(net):
    """The first of all rows of 0 and 1 that isn't sorted behind the net."""
    for row in product((0, 1), repeat=net[0]):
        told = slow_compared(net, row)[0]
        if list(told) != sorted(told):
            return row
    return None


def chance_net(many, stages, chance):
    """A net of so many wires and stages."""
    found = []
    for _ in range(stages):
        wires = chance.sample(range(many), chance.randrange(0, many // 2 + 1) * 2)
        found.append(tuple(sorted(tuple(sorted(pair)) for pair in zip(wires[::2], wires[1::2]))))
    return (many, tuple(found))


class ComparedTest(AskingTest):
    def compares(self, net, row, expected):
        told = self.told(compared, net, row)
        self.assertEqual(repr(told), repr(expected))
        self.assertTrue(is_setting(net, told[1]))
        self.assertEqual(moved(net, told[1], row), told[0])

    def test_written_out(self):
        self.compares(ONE_SWITCH, (1, 2), ((1, 2), ((0,),)))
        self.compares(ONE_SWITCH, (2, 1), ((1, 2), ((1,),)))
        self.compares(THREE, (3, 2, 1), ((1, 2, 3), ((1,), (1,), (1,))))
        self.compares(THREE, (2, 3, 1), ((1, 2, 3), ((0,), (1,), (1,))))
        self.compares(MIXED, (9, 1, 5, 2), ((1, 2, 5, 9), ((1, 0), (), (1, 0), (0,))))

    def test_equal_numbers_go_straight(self):
        self.compares(ONE_SWITCH, (5, 5), ((5, 5), ((0,),)))
        self.compares(THREE, (7, 7, 7), ((7, 7, 7), ((0,), (0,), (0,))))
        self.compares(THREE, (7, 7, 3), ((3, 7, 7), ((0,), (1,), (1,))))

    def test_numbers_below_nought(self):
        self.compares(ONE_SWITCH, (0, -1), ((-1, 0), ((1,),)))
        self.compares(ONE_SWITCH, (-2, -1), ((-2, -1), ((0,),)))
        self.compares(ONE_SWITCH, (-1, -2), ((-2, -1), ((1,),)))

    def test_numbers_of_forty_figures(self):
        self.compares(ONE_SWITCH, (GREAT + 1, GREAT), ((GREAT, GREAT + 1), ((1,),)))
        self.compares(ONE_SWITCH, (GREAT, GREAT + 1), ((GREAT, GREAT + 1), ((0,),)))
        self.compares(ONE_SWITCH, (-GREAT, -GREAT - 1), ((-GREAT - 1, -GREAT), ((1,),)))
        most = 10 * GREAT - 1
        self.compares(THREE, (most, -most, 0), ((-most, 0, most), ((1,), (1,), (0,))))

    def test_no_stages_or_no_switches(self):
        self.compares(ONE_WIRE, (4,), ((4,), ()))
        self.compares((4, ()), (4, 3, 2, 1), ((4, 3, 2, 1), ()))
        self.compares(EMPTY_STAGES, (3, 2, 1), ((3, 2, 1), ((), ())))

    def test_held_against_a_slow_one(self):
        chance = Random(1)
        nets = SMALL_NETS + tuple(f(m) for f in (whole, spared) for m in range(1, 6)) + (bricks(32), sorter(4))
        for net in nets + tuple(chance_net(many, 20, chance) for many in (2, 3, 7, 31, 32)):
            for span in (1, 3, 100, GREAT):
                for _ in range(3):
                    row = tuple(chance.randrange(-span, span + 1) for _ in range(net[0]))
                    self.compares(net, row, slow_compared(net, row))

    def test_told_nets_however_great(self):
        net = beside(beside(sorter(4), sorter(4)), beside(sorter(4), whole(5)))
        row = tuple((w * 37) % 50 - 20 for w in range(net[0]))
        self.compares(net, row, slow_compared(net, row))


class UnsortedTest(AskingTest):
    def unsorted(self, net, expected):
        told = self.told(unsorted, net)
        self.assertEqual(repr(told), repr(expected))
        if told is not None:
            row = compared(net, told)[0]
            self.assertNotEqual(list(row), sorted(row))

    def test_written_out(self):
        self.unsorted(ONE_WIRE, None)
        self.unsorted((1, ((), ())), None)
        self.unsorted(ONE_SWITCH, None)
        self.unsorted(THREE, None)
        self.unsorted((3, THREE[1][:2]), (1, 1, 0))
        self.unsorted((3, THREE[1][1:]), (1, 0, 0))
        self.unsorted((3, (((0, 2),),)), (0, 1, 0))

    def test_nets_without_stages_or_switches(self):
        for many in range(2, 11):
            for stages in ((), ((),), ((), (), ())):
                self.unsorted((many, stages), (0,) * (many - 2) + (1, 0))

    def test_nets_that_sort(self):
        for many in range(1, 11):
            self.unsorted(bricks(many), None)
        for m in range(1, 4):
            self.unsorted(sorter(m), None)
            self.unsorted(behind(whole(m), sorter(m)), None)

    def test_nets_that_do_not(self):
        for m in (2, 3):
            self.unsorted(merger(m), slow_unsorted(merger(m)))
            self.unsorted(about(sorter(m)), slow_unsorted(about(sorter(m))))
            self.unsorted(beside(sorter(m - 1), sorter(m - 1)), slow_unsorted(beside(sorter(m - 1), sorter(m - 1))))
        for net in (laid(sorter(2), (0, 1, 3, 4), 6), laid(sorter(2), (1, 3, 5, 7), 10), MIXED, whole(2), whole(3)):
            self.unsorted(net, slow_unsorted(net))

    def test_a_net_that_sorts_but_for_one_switch(self):
        kinds = set()
        for net in (bricks(4), bricks(7), bricks(10), sorter(2), sorter(3)):
            places = [(at, number) for at, stage in enumerate(net[1]) for number in range(len(stage))]
            for place in places[::3]:
                less = without(net, place)
                expected = slow_unsorted(less)
                kinds.add(expected is None)
                self.unsorted(less, expected)
        self.assertIn(False, kinds)

    def test_nets_of_chance(self):
        chance = Random(2)
        sorts = 0
        for many in range(1, 11):
            for stages in (1, 2, 5, 20):
                net = chance_net(many, stages, chance)
                expected = slow_unsorted(net)
                sorts += expected is None
                self.unsorted(net, expected)
        self.assertGreater(sorts, 4)

    def test_a_net_sorts_all_numbers_just_where_it_sorts_bits(self):
        chance = Random(3)
        for net in [chance_net(many, 8, chance) for many in (2, 3, 3, 4, 4, 4) for _ in range(6)]:
            rows = product(range(-1, net[0] - 1), repeat=net[0])
            rise = all(list(row) == sorted(row) for row in (compared(net, row)[0] for row in rows))
            self.assertEqual(rise, unsorted(net) is None)

    def test_too_many(self):
        self.assertIsNone(unsorted(bricks(10)))
        for net in (bricks(11), (11, ()), (11, ((),)), sorter(4), whole(4), whole(5), (32, ()), bricks(32)):
            self.refused(TooMany, unsorted, net)


if __name__ == "__main__":
    unittest.main()
