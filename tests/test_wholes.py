"""Points 10 to 12: the whole net, the spared net, and the fewest switches."""

import unittest
from math import factorial

from switchrows.joining import beside, laid
from switchrows.nets import is_net
from switchrows.nettexts import read_net, show_net
from switchrows.walking import order_led
from switchrows.wholes import fewest, many_switches, spared, whole
from tests.samples import EMPTY_STAGES, MIXED, ONE_SWITCH, ONE_WIRE, THREE
from tests.samples import all_orders, all_settings

FEWEST = (
    0, 1, 3, 5, 7, 10, 13, 16, 19, 22, 26, 29, 33, 37, 41, 45,
    49, 53, 57, 62, 66, 70, 75, 80, 84, 89, 94, 98, 103, 108, 113, 118,
)


def bit_stage(m, b, least):
    """The switches (a, a + 2 ** b), a from the least on, for each a whose bit b is 0."""
    return tuple((a, a + 2**b) for a in range(least, 2**m) if a // 2**b % 2 == 0)


def together(m, net):
    """A net laid on the even and on the odd wires, stage by stage together."""
    even = laid(net, tuple(range(0, 2**m, 2)), 2**m)
    odd = laid(net, tuple(range(1, 2**m, 2)), 2**m)
    return tuple(tuple(sorted(one + other)) for one, other in zip(even[1], odd[1]))


class WholeTest(unittest.TestCase):
    def test_of_1_and_2(self):
        pairs = ((0, 1), (2, 3))
        for _ in range(2):
            self.assertEqual(repr(whole(1)), repr((2, (((0, 1),),))))
            self.assertEqual(repr(whole(2)), repr((4, (pairs, ((0, 2), (1, 3)), pairs))))

    def test_of_3_as_a_text(self):
        ends = "0-1 2-3 4-5 6-7"
        next_ones = "0-2 1-3 4-6 5-7"
        middle = "0-4 1-5 2-6 3-7"
        self.assertEqual(show_net(whole(3)), "\n".join(["wires 8", ends, next_ones, middle, next_ones, ends]))

    def test_numbers(self):
        for m in range(1, 6):
            n = 2**m
            net = whole(m)
            self.assertTrue(is_net(net))
            self.assertEqual(net[0], n)
            self.assertEqual(len(net[1]), 2 * m - 1)
            self.assertEqual(many_switches(net), (2 * m - 1) * n // 2)
            self.assertEqual(read_net(show_net(net)), net)

    def test_each_switch_by_its_bit(self):
        for m in range(1, 6):
            for t, stage in enumerate(whole(m)[1]):
                self.assertEqual(repr(stage), repr(bit_stage(m, min(t, 2 * m - 2 - t), 0)))

    def test_made_of_the_lesser_one_twice(self):
        for m in range(2, 6):
            stages = whole(m)[1]
            mates = tuple((2 * k, 2 * k + 1) for k in range(2 ** (m - 1)))
            self.assertEqual(stages, (mates,) + together(m, whole(m - 1)) + (mates,))

    def test_leads_every_order(self):
        for m in (1, 2):
            led = {order_led(whole(m), setting) for setting in all_settings(whole(m))}
            self.assertEqual(sorted(led), all_orders(2**m))


class SparedTest(unittest.TestCase):
    def test_of_1_and_2(self):
        for _ in range(2):
            self.assertEqual(repr(spared(1)), repr((2, (((0, 1),),))))
            self.assertEqual(repr(spared(2)), repr((4, (((0, 1), (2, 3)), ((0, 2), (1, 3)), ((2, 3),)))))

    def test_of_3_as_a_text(self):
        lines = ["wires 8", "0-1 2-3 4-5 6-7", "0-2 1-3 4-6 5-7", "0-4 1-5 2-6 3-7", "4-6 5-7", "2-3 4-5 6-7"]
        self.assertEqual(show_net(spared(3)), "\n".join(lines))

    def test_numbers(self):
        for m in range(1, 6):
            n = 2**m
            net = spared(m)
            self.assertTrue(is_net(net))
            self.assertEqual(net[0], n)
            self.assertEqual(len(net[1]), 2 * m - 1)
            self.assertEqual(many_switches(net), m * n - n + 1)
            self.assertEqual(read_net(show_net(net)), net)

    def test_each_switch_by_its_bit(self):
        for m in range(1, 6):
            for t, stage in enumerate(spared(m)[1]):
                b = min(t, 2 * m - 2 - t)
                # Behind the middle each of the 2 ** b nets of that depth lacks its first switch.
                least = 2**b if t >= m else 0
                self.assertEqual(repr(stage), repr(bit_stage(m, b, least)))

    def test_made_of_the_lesser_one_twice(self):
        for m in range(2, 6):
            stages = spared(m)[1]
            mates = tuple((2 * k, 2 * k + 1) for k in range(2 ** (m - 1)))
            self.assertEqual(stages, (mates,) + together(m, spared(m - 1)) + (mates[1:],))

    def test_fewer_switches_than_the_whole_and_no_fewer_than_the_fewest(self):
        for m in range(2, 6):
            self.assertLess(many_switches(spared(m)), many_switches(whole(m)))
        for m in range(1, 6):
            self.assertGreaterEqual(many_switches(spared(m)), fewest(2**m))

    def test_leads_every_order(self):
        for m in (1, 2):
            led = {order_led(spared(m), setting) for setting in all_settings(spared(m))}
            self.assertEqual(sorted(led), all_orders(2**m))


class ManySwitchesTest(unittest.TestCase):
    def test_written_out(self):
        for net, many in ((ONE_WIRE, 0), (EMPTY_STAGES, 0), (ONE_SWITCH, 1), (THREE, 3), (MIXED, 5)):
            self.assertEqual(repr(many_switches(net)), repr(many))

    def test_of_great_nets(self):
        self.assertEqual(many_switches(beside(whole(5), whole(5))), 288)


class FewestTest(unittest.TestCase):
    def test_written_out(self):
        for many, switches in enumerate(FEWEST, 1):
            self.assertEqual(repr(fewest(many)), repr(switches))
            self.assertEqual(fewest(many), switches)

    def test_the_least_such_number(self):
        for many in range(1, 33):
            switches = fewest(many)
            self.assertGreaterEqual(2**switches, factorial(many))
            if switches > 0:
                self.assertLess(2 ** (switches - 1), factorial(many))

    def test_a_net_with_fewer_leads_fewer_orders(self):
        net = (3, (((0, 1),), ((1, 2),)))
        self.assertLess(many_switches(net), fewest(3))
        self.assertLess(len({order_led(net, setting) for setting in all_settings(net)}), 6)


if __name__ == "__main__":
    unittest.main()
