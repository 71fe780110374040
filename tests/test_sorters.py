"""Point 28, and 3 of it: mergers and sorters."""

import unittest
from itertools import product
from random import Random

from switchrows.comparing import compared, unsorted
from switchrows.nets import is_net
from switchrows.sorters import merger, sorter
from switchrows.walking import leads, moved, order_led
from tests.asking import AskingTest
from tests.samples import all_orders, sample_orders


def slow_merger(m):
    """The stages of the merger, each as a set of switches."""
    if m == 1:
        return [{(0, 1)}]
    half = slow_merger(m - 1)
    stages = [{(2 * a + s, 2 * b + s) for a, b in stage for s in (0, 1)} for stage in half]
    return stages + [{(2 * k + 1, 2 * k + 2) for k in range(2 ** (m - 1) - 1)}]


def slow_sorter(m):
    """The stages of the sorter, each as a set of switches."""
    if m == 1:
        return [{(0, 1)}]
    many = 2 ** (m - 1)
    both = [stage | {(a + many, b + many) for a, b in stage} for stage in slow_sorter(m - 1)]
    return both + slow_merger(m)


def as_net(m, stages):
    return (2**m, tuple(tuple(sorted(stage)) for stage in stages))


class SortersTest(AskingTest):
    def test_written_out(self):
        self.assertEqual(self.told(merger, 1), (2, (((0, 1),),)))
        self.assertEqual(self.told(sorter, 1), (2, (((0, 1),),)))
        self.assertEqual(self.told(merger, 2), (4, (((0, 2), (1, 3)), ((1, 2),))))
        self.assertEqual(self.told(sorter, 2), (4, (((0, 1), (2, 3)), ((0, 2), (1, 3)), ((1, 2),))))
        three = (((0, 4), (1, 5), (2, 6), (3, 7)), ((2, 4), (3, 5)), ((1, 2), (3, 4), (5, 6)))
        self.assertEqual(self.told(merger, 3), (8, three))

    def test_held_against_the_description(self):
        for m in range(1, 5):
            self.assertEqual(repr(self.told(merger, m)), repr(as_net(m, slow_merger(m))))
            self.assertEqual(repr(self.told(sorter, m)), repr(as_net(m, slow_sorter(m))))

    def test_nets_wires_and_stages(self):
        for m in range(1, 5):
            for net in (merger(m), sorter(m)):
                self.assertTrue(is_net(net))
                self.assertEqual(net[0], 2**m)
            self.assertEqual(len(merger(m)[1]), m)
            self.assertEqual(len(sorter(m)[1]), m * (m + 1) // 2)

    def test_mergers_bring_two_rows_that_rise_to_one(self):
        chance = Random(1)
        for m in range(1, 5):
            half = 2 ** (m - 1)
            for ones, others in product(range(half + 1), repeat=2):
                row = (0,) * (half - ones) + (1,) * ones + (0,) * (half - others) + (1,) * others
                self.assertEqual(list(compared(merger(m), row)[0]), sorted(row))
            for _ in range(20):
                row = [chance.randrange(-30, 30) for _ in range(2 * half)]
                row = tuple(sorted(row[:half]) + sorted(row[half:]))
                self.assertEqual(list(compared(merger(m), row)[0]), sorted(row))

    def test_all_rows_of_bits_up_to_eight_wires(self):
        for m in range(1, 4):
            self.assertIsNone(unsorted(sorter(m)))
            for row in product((0, 1), repeat=2**m):
                self.assertEqual(list(compared(sorter(m), row)[0]), sorted(row))

    def test_many_rows_rise(self):
        chance = Random(2)
        for m in range(1, 5):
            for span in (1, 2, 5, 1000, 10**39):
                for _ in range(60):
                    row = tuple(chance.randrange(-span, span + 1) for _ in range(2**m))
                    told, setting = compared(sorter(m), row)
                    self.assertEqual(list(told), sorted(row))
                    self.assertEqual(moved(sorter(m), setting, row), told)

    def test_rows_of_bits_of_sixteen_wires(self):
        net = sorter(4)
        for number in range(0, 2**16, 37):
            row = tuple(number // 2**w % 2 for w in range(16))
            self.assertEqual(list(compared(net, row)[0]), sorted(row))

    def test_the_setting_of_an_order_leads_it(self):
        for m in range(1, 5):
            net = sorter(m)
            for order in all_orders(2**m) if m < 3 else sample_orders(2**m, 200):
                told, setting = compared(net, order)
                self.assertEqual(told, tuple(range(2**m)))
                self.assertTrue(leads(net, setting, order))
                self.assertEqual(order_led(net, setting), order)


if __name__ == "__main__":
    unittest.main()
