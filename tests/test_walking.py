"""Point 7: rows moved, orders led, part orders led, and ways."""

import unittest
from itertools import product

from switchrows.nets import is_order
from switchrows.walking import leads, moved, order_led, way_of
from tests.samples import EMPTY_STAGES, MIXED, ONE_SWITCH, ONE_WIRE, SMALL_NETS, THREE
from tests.samples import all_orders, all_settings, constant_setting

HUGE = 10**40 - 1
WIDE = (40, (tuple((a, a + 1) for a in range(0, 40, 2)), tuple((a, a + 20) for a in range(20))))
LONG = (3, (((0, 1),), ((1, 2),)) * 15)
ROWS = {
    1: ((5,), ("one",), (-HUGE,)),
    2: ((1, 2), (7, 7), ("b", "a"), (HUGE, -HUGE)),
    3: ((3, 1, 2), (0, 0, 1), ("x", "", "x"), (-1, HUGE, -HUGE), (1, "1", -1)),
    4: ((4, 3, 2, 1), (9, 9, 9, 8), ("d", "a", "c", "b"), (HUGE, 0, "0", -HUGE)),
}


class MovedTest(unittest.TestCase):
    def told(self, net, setting, row, expected):
        for _ in range(2):
            self.assertEqual(repr(moved(net, setting, row)), repr(expected))

    def test_one_switch(self):
        self.told(ONE_SWITCH, ((0,),), ("a", "b"), ("a", "b"))
        self.told(ONE_SWITCH, ((1,),), ("a", "b"), ("b", "a"))
        self.told(ONE_SWITCH, ((1,),), (-HUGE, HUGE), (HUGE, -HUGE))
        self.told(ONE_SWITCH, ((1,),), (7, 7), (7, 7))

    def test_stages_one_after_another(self):
        row = ("a", "b", "c")
        self.told(THREE, ((1,), (1,), (0,)), row, ("b", "c", "a"))
        self.told(THREE, ((0,), (1,), (1,)), row, ("c", "a", "b"))
        self.told(THREE, ((1,), (1,), (1,)), row, ("c", "b", "a"))
        self.told(THREE, ((1,), (0,), (1,)), row, row)
        self.told(THREE, ((1,), (1,), (0,)), (0, -1, 0), (-1, 0, 0))

    def test_mixed_settings(self):
        self.told(MIXED, ((1, 0), (), (0, 0), (0,)), (1, 2, 3, 4), (4, 2, 3, 1))
        self.told(MIXED, ((0, 1), (), (0, 0), (0,)), (1, 2, 3, 4), (1, 3, 2, 4))
        self.told(MIXED, ((0, 1), (), (1, 0), (1,)), (1, 2, 3, 4), (3, 2, 1, 4))
        self.told(MIXED, ((1, 1), (), (1, 1), (1,)), ("p", "q", "r", "s"), ("r", "p", "s", "q"))

    def test_nothing_to_move(self):
        self.told(ONE_WIRE, (), ("alone",), ("alone",))
        self.told((4, ()), (), (4, 3, 2, 1), (4, 3, 2, 1))
        self.told(EMPTY_STAGES, ((), ()), (1, 2, 3), (1, 2, 3))
        self.told((1, ((), ())), ((), ()), (HUGE,), (HUGE,))

    def test_straight_moves_nothing(self):
        for net in SMALL_NETS:
            for row in ROWS[net[0]]:
                self.told(net, constant_setting(net, 0), row, row)

    def test_great_nets(self):
        row = tuple(range(40))
        expected = tuple(range(20, 40)) + tuple(range(20))
        self.told(WIDE, ((0,) * 20, (1,) * 20), row, expected)
        self.told(LONG, ((1,), (1,)) * 15, ("a", "b", "c"), ("a", "b", "c"))
        self.told(LONG, ((1,), (1,)) * 14 + ((0,), (0,)), ("a", "b", "c"), ("c", "a", "b"))


class OrderLedTest(unittest.TestCase):
    def test_written_out(self):
        self.assertEqual(order_led(ONE_WIRE, ()), (0,))
        self.assertEqual(order_led(ONE_SWITCH, ((0,),)), (0, 1))
        self.assertEqual(order_led(ONE_SWITCH, ((1,),)), (1, 0))
        self.assertEqual(order_led(THREE, ((1,), (1,), (0,))), (2, 0, 1))
        self.assertEqual(order_led(THREE, ((0,), (1,), (1,))), (1, 2, 0))
        self.assertEqual(order_led(EMPTY_STAGES, ((), ())), (0, 1, 2))
        self.assertEqual(order_led((5, ()), ()), (0, 1, 2, 3, 4))

    def test_held_against_the_row_moved(self):
        for net in SMALL_NETS:
            for setting in all_settings(net):
                order = order_led(net, setting)
                self.assertEqual(order, order_led(net, setting))
                self.assertTrue(is_order(net[0], order))
                for row in ROWS[net[0]]:
                    behind = moved(net, setting, row)
                    self.assertIs(type(behind), tuple)
                    for wire, place in enumerate(order):
                        self.assertEqual(repr(behind[place]), repr(row[wire]))

    def test_three_leads_all_orders(self):
        led = {order_led(THREE, setting) for setting in all_settings(THREE)}
        self.assertEqual(sorted(led), all_orders(3))

    def test_great_nets(self):
        order = order_led(WIDE, ((1,) * 20, (0, 1) * 10))
        self.assertTrue(is_order(40, order))
        self.assertEqual(order[:4], (21, 0, 23, 2))
        self.assertEqual(order_led(LONG, ((1,), (1,)) * 15), (0, 1, 2))


class LeadsTest(unittest.TestCase):
    def told(self, net, setting, part, expected):
        for _ in range(2):
            self.assertIs(leads(net, setting, part), expected, (net, setting, part))

    def test_orders(self):
        for net in SMALL_NETS:
            for setting in all_settings(net):
                for order in all_orders(net[0]):
                    self.told(net, setting, order, order == order_led(net, setting))

    def test_idle_wires_are_not_asked(self):
        for net in (ONE_SWITCH, THREE, MIXED):
            for setting in all_settings(net):
                order = order_led(net, setting)
                for idle in product((False, True), repeat=net[0]):
                    part = tuple(None if out else place for out, place in zip(idle, order))
                    self.told(net, setting, part, True)

    def test_a_wire_that_is_not_idle_is_asked(self):
        for net in (ONE_SWITCH, THREE, MIXED):
            for setting in all_settings(net):
                order = order_led(net, setting)
                for wire in range(net[0]):
                    for place in range(net[0]):
                        part = (None,) * wire + (place,) + (None,) * (net[0] - wire - 1)
                        self.told(net, setting, part, order[wire] == place)

    def test_all_idle(self):
        for net in SMALL_NETS:
            for setting in all_settings(net):
                self.told(net, setting, (None,) * net[0], True)

    def test_written_out(self):
        self.told(ONE_SWITCH, ((1,),), (1, None), True)
        self.told(ONE_SWITCH, ((1,),), (0, None), False)
        self.told(ONE_SWITCH, ((0,),), (0, None), True)
        self.told(THREE, ((1,), (1,), (0,)), (2, None, 1), True)
        self.told(THREE, ((1,), (1,), (0,)), (2, None, 0), False)
        self.told(THREE, ((1,), (1,), (0,)), (1, 0, 2), False)
        self.told(ONE_WIRE, (), (0,), True)


class WayTest(unittest.TestCase):
    def told(self, net, setting, wire, expected):
        for _ in range(2):
            self.assertEqual(repr(way_of(net, setting, wire)), repr(expected))

    def test_written_out(self):
        self.told(ONE_WIRE, (), 0, (0,))
        self.told((4, ()), (), 3, (3,))
        self.told(EMPTY_STAGES, ((), ()), 1, (1, 1, 1))
        self.told(ONE_SWITCH, ((0,),), 0, (0, 0))
        self.told(ONE_SWITCH, ((1,),), 0, (0, 1))
        self.told(ONE_SWITCH, ((1,),), 1, (1, 0))
        self.told(THREE, ((1,), (1,), (0,)), 0, (0, 1, 2, 2))
        self.told(THREE, ((1,), (1,), (0,)), 1, (1, 0, 0, 0))
        self.told(THREE, ((1,), (1,), (0,)), 2, (2, 2, 1, 1))
        self.told(MIXED, ((1, 1), (), (0, 1), (1,)), 0, (0, 3, 3, 2, 1))
        self.told(MIXED, ((1, 1), (), (0, 1), (1,)), 3, (3, 0, 0, 0, 0))

    def test_held_against_the_order_behind_each_stage(self):
        for net in SMALL_NETS:
            many, stages = net
            for setting in all_settings(net):
                for wire in range(many):
                    way = way_of(net, setting, wire)
                    self.assertEqual(len(way), len(stages) + 1)
                    for behind in range(len(stages) + 1):
                        order = order_led((many, stages[:behind]), setting[:behind])
                        self.assertEqual(way[behind], order[wire])

    def test_great_nets(self):
        self.told(WIDE, ((1,) * 20, (1,) * 20), 39, (39, 38, 18))
        way = way_of(LONG, ((1,), (1,)) * 15, 0)
        self.assertEqual(way, (0,) + (1, 2, 2, 1, 0, 0) * 5)


if __name__ == "__main__":
    unittest.main()
