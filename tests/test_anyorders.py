"""Points 23 and 2: all orders that the settings of any net lead, or TooMany."""

import unittest
from random import Random

from switchrows.anyorders import orders_led
from switchrows.bitnets import bit_net, first_trouble, many_led
from switchrows.errors import TooMany
from switchrows.joining import behind, beside
from switchrows.leading import setting_for
from switchrows.nets import is_order
from switchrows.walking import order_led
from switchrows.wholes import many_switches, spared, whole
from tests.asking import AskingTest
from tests.samples import EMPTY_STAGES, MIXED, ONE_SWITCH, ONE_WIRE, SMALL_NETS, THREE
from tests.samples import all_but, all_orders, all_settings, sample_orders, switches_of, turned_order

# Ten and eleven switches of three wires.
TEN = (3, (((0, 1),), ((1, 2),)) * 5)
ELEVEN = (3, TEN[1] + (((0, 2),),))


def slow_orders(net, stuck):
    """Each setting of a small net that agrees, walked."""
    led = set()
    for setting in all_settings(net):
        if all(setting[stage][number] == way for stage, number, way in stuck):
            led.add(order_led(net, setting))
    return tuple(sorted(led))


class OrdersLedTest(AskingTest):
    def led(self, net, stuck, expected):
        self.assertEqual(repr(self.told(orders_led, net, stuck)), repr(expected))

    def test_written_out(self):
        self.led(ONE_SWITCH, (), ((0, 1), (1, 0)))
        self.led(ONE_SWITCH, ((0, 0, 0),), ((0, 1),))
        self.led(ONE_SWITCH, ((0, 0, 1),), ((1, 0),))
        two = (3, (((0, 1),), ((1, 2),)))
        # Crossed at both, thing 0 goes to 1 and then to 2.
        self.led(two, (), ((0, 1, 2), (0, 2, 1), (1, 0, 2), (2, 0, 1)))
        self.led(two, ((0, 0, 1),), ((1, 0, 2), (2, 0, 1)))
        self.led(two, ((1, 0, 1),), ((0, 2, 1), (2, 0, 1)))
        self.led(THREE, (), tuple(all_orders(3)))

    def test_no_stages_or_no_switches(self):
        self.led(ONE_WIRE, (), ((0,),))
        self.led((1, ((), ())), (), ((0,),))
        self.led(EMPTY_STAGES, (), ((0, 1, 2),))
        self.led((4, ()), (), ((0, 1, 2, 3),))
        self.led((32, ()), (), (tuple(range(32)),))

    def test_small_nets_with_none_some_and_all_stuck(self):
        chance = Random(1)
        for net in SMALL_NETS + (whole(2), spared(2), bit_net(2, (0, 1, 1, 0)), TEN):
            for free in range(many_switches(net) + 1):
                for _ in range(3):
                    stuck = all_but(net, free, chance)
                    self.led(net, stuck, slow_orders(net, stuck))

    def test_all_stuck_is_one_order(self):
        for m in range(1, 6):
            for order in sample_orders(2**m, 5):
                setting = setting_for(order)
                stuck = tuple((*place, setting[place[0]][place[1]]) for place in switches_of(whole(m)))
                self.led(whole(m), stuck, (order,))

    def test_rising_each_once(self):
        chance = Random(2)
        for net in (whole(2), MIXED, TEN, whole(3), whole(5), bit_net(5, (4, 0, 2, 2, 1))):
            for free in (0, 1, 5, 10):
                told = orders_led(net, all_but(net, min(free, many_switches(net)), chance))
                self.assertEqual(list(told), sorted(set(told)))
                self.assertTrue(all(is_order(net[0], order) for order in told))
                self.assertLessEqual(len(told), 2**free)

    def test_just_ten_and_just_eleven_switches(self):
        self.led(TEN, (), tuple(all_orders(3)))
        self.refused(TooMany, orders_led, ELEVEN, ())
        self.led(ELEVEN, ((10, 0, 0),), tuple(all_orders(3)))
        self.led(ELEVEN, ((4, 0, 1),), slow_orders(ELEVEN, ((4, 0, 1),)))

    def test_just_ten_and_just_eleven_that_are_not_stuck(self):
        chance = Random(3)
        for net in (whole(3), whole(4), whole(5), bit_net(4, (0, 1, 2, 3)), beside(whole(2), whole(2))):
            self.assertTrue(orders_led(net, all_but(net, 10, chance)))
            self.refused(TooMany, orders_led, net, all_but(net, 11, chance))
            self.refused(TooMany, orders_led, net, ())

    def test_ten_of_many_wires_held_against_settings_walked(self):
        chance = Random(4)
        for net in (whole(4), whole(5), bit_net(5, (3, 1, 4, 0, 2, 4, 4, 1, 0, 2))):
            stuck = all_but(net, 6, chance)
            told = {(stage, number): way for stage, number, way in stuck}
            free = [place for place in switches_of(net) if place not in told]
            expected = set()
            for choice in range(2**6):
                ways = {place: choice // 2**at % 2 for at, place in enumerate(free)}
                ways.update(told)
                setting = tuple(tuple(ways[t, j] for j in range(len(stage))) for t, stage in enumerate(net[1]))
                expected.add(order_led(net, setting))
            self.led(net, stuck, tuple(sorted(expected)))

    def test_plain_bit_nets_as_their_troubles_tell(self):
        for m, bits in ((1, ()), (1, (0,)), (2, (0,)), (2, (1, 0)), (2, (0, 1)), (3, (2,)), (3, (0, 2))):
            told = orders_led(bit_net(m, bits), ())
            self.assertEqual(len(told), many_led(m, bits))
            if m < 3:
                self.assertEqual(told, tuple(o for o in all_orders(2**m) if first_trouble(m, bits, o) is None))

    def test_told_nets_however_great(self):
        net = whole(5)
        for _ in range(5):
            net = behind(net, net)
        stuck = tuple((*place, 0) for place in switches_of(net) if place[0] > 0 or place[1] > 9)
        told = orders_led(net, stuck)
        self.assertEqual(len(told), 1024)
        self.assertEqual(told[0], tuple(range(32)))
        wide = beside(beside(whole(5), whole(5)), whole(5))
        stuck = tuple((*place, int(place[0] == 4)) for place in switches_of(wide))
        crossed = turned_order(32, 16)
        self.led(wide, stuck, (crossed + tuple(w + 32 for w in crossed) + tuple(w + 64 for w in crossed),))


if __name__ == "__main__":
    unittest.main()
