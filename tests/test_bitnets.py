"""Points 21 and 22, and 3 of them: bit nets, where things stand, troubles, settings, and how many orders are led."""

import unittest
from random import Random

from switchrows.bitnets import bit_net, bit_setting, first_trouble, many_led, stands_at
from switchrows.nets import is_net, is_setting
from switchrows.nettexts import show_net
from switchrows.orders import back_of
from switchrows.walking import order_led, way_of
from switchrows.wholes import many_switches, whole
from tests.asking import AskingTest
from tests.bybits import plain_bits, slow_stands, slow_trouble
from tests.samples import all_orders, all_settings, constant_setting, sample_orders, turned_order


def chance_setting(net, chance):
    """A setting with each way by chance."""
    return tuple(tuple(chance.randrange(2) for _ in stage) for stage in net[1])


def some_bits(m):
    """Plain bits of m: of few all, of more some."""
    bits = plain_bits(m)
    return bits if len(bits) < 30 else bits[:7] + bits[7::23] + [tuple(range(m)), tuple(range(m))[::-1]]


class BitNetTest(AskingTest):
    def test_written_out(self):
        for m, bits, text in (
            (1, (), "wires 2"),
            (1, (0,), "wires 2\n0-1"),
            (2, (1,), "wires 4\n0-2 1-3"),
            (2, (1, 0), "wires 4\n0-2 1-3\n0-1 2-3"),
            (2, (0, 0), "wires 4\n0-1 2-3\n0-1 2-3"),
            (3, (1, 2, 1), "wires 8\n0-2 1-3 4-6 5-7\n0-4 1-5 2-6 3-7\n0-2 1-3 4-6 5-7"),
        ):
            net = self.told(bit_net, m, bits)
            self.assertEqual(show_net(net), text)

    def test_no_bits(self):
        for m in range(1, 6):
            self.assertEqual(self.told(bit_net, m, ()), (2**m, ()))

    def test_each_stage_by_its_bit(self):
        for m in range(1, 6):
            stages = [tuple((a, a + 2**b) for a in range(2**m) if not a & 2**b) for b in range(m)]
            ten = tuple(k % m for k in range(10))
            same = (m - 1,) * 10
            for bits in plain_bits(m) + [(0, 0), (m - 1, 0, m - 1), ten, ten[::-1], same]:
                net = self.told(bit_net, m, bits)
                self.assertTrue(is_net(net))
                self.assertEqual(net, (2**m, tuple(stages[b] for b in bits)))
                self.assertEqual(many_switches(net), len(bits) * 2 ** (m - 1))

    def test_held_against_the_whole_net(self):
        for m in range(1, 6):
            bits = tuple(range(m)) + tuple(range(m - 1))[::-1]
            self.assertEqual(repr(self.told(bit_net, m, bits)), repr(whole(m)))


class StandsTest(AskingTest):
    def test_written_out(self):
        for bits, stages, w, d, wire in (
            ((), 0, 5, 2, 5),
            ((0, 1, 2), 0, 5, 2, 5),
            ((0, 1, 2), 1, 5, 2, 4),
            ((0, 1, 2), 2, 5, 2, 6),
            ((0, 1, 2), 3, 5, 2, 2),
            ((2, 0), 1, 5, 2, 1),
            ((2, 0), 2, 5, 2, 0),
            ((1,), 1, 31, 0, 29),
        ):
            self.assertEqual(repr(self.told(stands_at, bits, stages, w, d)), repr(wire))

    def test_behind_none_some_and_all_stages(self):
        for m in range(1, 6):
            for bits in some_bits(m):
                for stages in range(len(bits) + 1):
                    for w in range(2**m):
                        for d in range(2**m):
                            self.assertEqual(stands_at(bits, stages, w, d), slow_stands(bits, stages, w, d))

    def test_held_against_the_way(self):
        chance = Random(3)
        for m in range(1, 6):
            for bits in some_bits(m):
                net = bit_net(m, bits)
                setting = chance_setting(net, chance)
                for w, d in enumerate(order_led(net, setting)):
                    way = tuple(stands_at(bits, stages, w, d) for stages in range(len(bits) + 1))
                    self.assertEqual(way, way_of(net, setting, w))


class TroubleTest(AskingTest):
    def trouble(self, m, bits, order, expected):
        self.assertEqual(repr(self.told(first_trouble, m, bits, order)), repr(expected))

    def held(self, m, bits, order):
        """Trouble and setting, held against things gone one by one."""
        trouble, setting = slow_trouble(m, bits, order)
        self.trouble(m, bits, order, trouble)
        self.assertEqual(repr(self.told(bit_setting, m, bits, order)), repr(setting))

    def test_written_out(self):
        self.trouble(1, (0,), (1, 0), None)
        self.trouble(1, (), (0, 1), None)
        self.trouble(1, (), (1, 0), ("stays", 0))
        self.trouble(2, (0,), (0, 2, 1, 3), ("stays", 1))
        self.trouble(2, (1,), (2, 1, 0, 3), None)
        self.trouble(2, (0, 1), (0, 2, 1, 3), ("clash", 0, 0))
        self.trouble(2, (0, 1), (1, 3, 0, 2), ("clash", 0, 1))
        self.trouble(2, (0, 1), (1, 2, 3, 0), None)

    def test_stays_goes_ahead_of_clash(self):
        # Things 0 and 1 clash at the stage of bit 0, but things 3 and 7 need the bit 2.
        order = (0, 2, 1, 7, 4, 5, 6, 3)
        self.trouble(3, (0, 1), order, ("stays", 3))
        self.trouble(3, (0, 1, 2), order, ("clash", 0, 0))
        self.trouble(3, (2, 0, 1), order, ("clash", 1, 0))

    def test_the_first_stage_and_there_the_least_wire(self):
        # Behind the first stage all is well; behind the second one two things are at each of 0, 1, 6 and 7.
        self.trouble(3, (0, 1, 2), (0, 1, 4, 5, 2, 3, 6, 7), ("clash", 1, 0))
        self.trouble(3, (0, 1, 2), (0, 1, 2, 3, 4, 6, 5, 7), ("clash", 0, 4))
        for order in ((0, 1, 4, 5, 2, 3, 6, 7), (0, 5, 2, 3, 4, 1, 6, 7), (4, 5, 0, 1, 2, 3, 6, 7)):
            for bits in plain_bits(3):
                self.held(3, bits, order)

    def test_all_orders_of_2_and_4_wires(self):
        for m in (1, 2):
            for bits in plain_bits(m):
                for order in all_orders(2**m):
                    self.held(m, bits, order)

    def test_orders_of_8_16_and_32_wires(self):
        for m, how_many in ((3, 40), (4, 10), (5, 5)):
            for bits in some_bits(m):
                for order in sample_orders(2**m, how_many):
                    self.held(m, bits, order)

    def test_things_in_place_and_turned_are_led(self):
        for m in range(1, 6):
            bits = tuple(range(m))
            for by in range(2**m):
                order = turned_order(2**m, by)
                self.trouble(m, bits, order, None)
                self.assertEqual(order_led(bit_net(m, bits), bit_setting(m, bits, order)), order)

    def test_held_against_all_settings(self):
        for m in (1, 2, 3):
            for bits in plain_bits(m):
                net = bit_net(m, bits)
                led = {}
                for setting in all_settings(net):
                    order = order_led(net, setting)
                    self.assertNotIn(order, led)
                    led[order] = setting
                self.assertEqual(repr(self.told(many_led, m, bits)), repr(len(led)))
                asked = all_orders(2**m) if m < 3 else sample_orders(8, 30) + list(led)[::41]
                for order in asked:
                    self.assertEqual(bit_setting(m, bits, order), led.get(order))
                    self.assertIs(first_trouble(m, bits, order) is None, order in led)

    def test_any_setting_is_found_again(self):
        chance = Random(7)
        for m in (3, 4, 5):
            for bits in some_bits(m):
                net = bit_net(m, bits)
                for setting in (constant_setting(net, 0), constant_setting(net, 1), chance_setting(net, chance)):
                    order = order_led(net, setting)
                    self.trouble(m, bits, order, None)
                    told = self.told(bit_setting, m, bits, order)
                    self.assertTrue(is_setting(net, told))
                    self.assertEqual(told, setting)

    def test_the_order_back_goes_by_the_bits_turned_about(self):
        for m in (2, 3):
            for bits in plain_bits(m):
                for order in sample_orders(2**m, 10):
                    there = bit_setting(m, bits, order)
                    back = bit_setting(m, bits[::-1], back_of(order))
                    self.assertEqual(back, None if there is None else there[::-1])


class ManyLedTest(AskingTest):
    def test_written_out(self):
        for m, bits, many in (
            (1, (), 1),
            (1, (0,), 2),
            (2, (), 1),
            (2, (1,), 4),
            (2, (1, 0), 16),
            (3, (0, 2), 256),
            (3, (2, 1, 0), 4096),
            (5, (), 1),
            (5, (0, 1, 2, 3, 4), 1208925819614629174706176),
        ):
            self.assertEqual(repr(self.told(many_led, m, bits)), repr(many))

    def test_by_the_number_of_switches(self):
        for m in range(1, 6):
            for bits in plain_bits(m):
                self.assertEqual(many_led(m, bits), 2 ** many_switches(bit_net(m, bits)))


if __name__ == "__main__":
    unittest.main()
