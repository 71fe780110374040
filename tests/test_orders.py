"""Point 8: orders back, after one another, and odd ones."""

import copy
import unittest

from switchrows.orders import after, back_of, is_odd
from switchrows.walking import moved, order_led
from tests.samples import MIXED, OTHER_THINGS, SMALL_NETS, all_orders, all_settings


def crossed_pairs(order):
    """The number of pairs of wires whose things change sides, as point 8 counts them."""
    return sum(order[v] > order[w] for w in range(len(order)) for v in range(w))


class BackTest(unittest.TestCase):
    def test_written_out(self):
        self.assertEqual(back_of((0,)), (0,))
        self.assertEqual(back_of((1, 0)), (1, 0))
        self.assertEqual(back_of((1, 2, 0)), (2, 0, 1))
        self.assertEqual(back_of((3, 0, 2, 1)), (1, 3, 2, 0))

    def test_each_thing_comes_back_in_both_turns(self):
        for many in range(1, 6):
            own = tuple(range(many))
            for order in all_orders(many):
                back = back_of(order)
                self.assertIs(type(back), tuple)
                self.assertEqual(after(order, back), own)
                self.assertEqual(after(back, order), own)
                self.assertEqual(back_of(back), order)

    def test_many_wires(self):
        turned = tuple(range(1, 100)) + (0,)
        self.assertEqual(back_of(turned), (99,) + tuple(range(99)))


class AfterTest(unittest.TestCase):
    def test_the_turn_matters(self):
        self.assertEqual(after((1, 0, 2), (0, 2, 1)), (2, 0, 1))
        self.assertEqual(after((0, 2, 1), (1, 0, 2)), (1, 2, 0))
        self.assertEqual(after((1, 2, 3, 0), (0, 1, 3, 2)), (1, 3, 2, 0))
        self.assertEqual(after((0, 1, 3, 2), (1, 2, 3, 0)), (1, 2, 0, 3))
        self.assertEqual(after((0,), (0,)), (0,))

    def test_by_one_then_by_the_other(self):
        for one in all_orders(4):
            for other in all_orders(4):
                both = after(one, other)
                self.assertIs(type(both), tuple)
                for wire in range(4):
                    self.assertEqual(both[wire], other[one[wire]])

    def test_with_each_things_own_place(self):
        for order in all_orders(4):
            self.assertEqual(after(order, (0, 1, 2, 3)), order)
            self.assertEqual(after((0, 1, 2, 3), order), order)


class OddTest(unittest.TestCase):
    def told(self, thing, expected):
        before = copy.deepcopy(thing)
        self.assertIs(is_odd(thing), expected, thing)
        self.assertIs(is_odd(thing), expected, thing)
        self.assertEqual(repr(thing), repr(before))

    def test_written_out(self):
        self.told((0,), False)
        self.told((0, 1), False)
        self.told((1, 0), True)
        self.told((0, 2, 1), True)
        self.told((2, 1, 0), True)
        self.told((1, 2, 0), False)
        self.told((1, 0, 3, 2), False)
        self.told((1, 2, 3, 0), True)

    def test_held_against_the_pairs(self):
        for many in range(1, 7):
            for order in all_orders(many):
                self.told(order, crossed_pairs(order) % 2 == 1)

    def test_held_against_the_crossed_switches(self):
        for net in SMALL_NETS:
            for setting in all_settings(net):
                crossed = sum(sum(ways) for ways in setting)
                self.told(order_led(net, setting), crossed % 2 == 1)

    def test_one_after_another(self):
        for one in all_orders(4):
            for other in all_orders(4):
                self.told(after(one, other), is_odd(one) != is_odd(other))

    def test_many_wires(self):
        self.told(tuple(range(32))[::-1], False)
        self.told(tuple(range(34))[::-1], True)
        self.told(tuple(range(1, 300)) + (0,), True)
        self.told(tuple(range(1, 301)) + (0,), False)
        self.told(tuple(range(19000)), False)

    def test_of_anything(self):
        for thing in OTHER_THINGS:
            self.told(thing, False)
        for thing in ([1, 0], (1, None), (True, False), (1, 1), (2, 0), (-1, 0), "10", {0: 1, 1: 0}):
            self.told(thing, False)


class MovedBackTest(unittest.TestCase):
    def test_a_row_read_by_the_order_back(self):
        row = ("a", "b", "c", "d")
        for setting in all_settings(MIXED):
            back = back_of(order_led(MIXED, setting))
            self.assertEqual(moved(MIXED, setting, row), tuple(row[wire] for wire in back))


if __name__ == "__main__":
    unittest.main()
