"""Points 15 to 17, and 3 of them: settings of whole and spared nets for orders, and how many there are."""

import unittest
from collections import Counter

from switchrows.leading import many_settings, setting_for, spared_setting
from switchrows.nets import is_setting
from switchrows.nettexts import show_setting
from switchrows.orders import after, back_of
from switchrows.walking import leads, order_led
from switchrows.wholes import many_switches, spared, whole
from tests.asking import AskingTest
from tests.byhalves import every_sides, slow_ends, slow_fixed, slow_halves, slow_spared_sides
from tests.samples import all_orders, all_settings, mates_kept, sample_orders, turned_order


def orders_asked():
    """For each m from 1 to 5, orders of 2 ** m wires."""
    return {1: all_orders(2), 2: all_orders(4), 3: sample_orders(8, 200), 4: sample_orders(16, 60),
            5: sample_orders(32, 40)}


def half_settings(setting):
    """The settings of both halves, taken out of the stages between."""
    return tuple(tuple(ways[side::2] for ways in setting[1:-1]) for side in (0, 1))


class WholeSettingTest(AskingTest):
    def test_written_out(self):
        for order, text in (
            ((0, 1), "="),
            ((1, 0), "x"),
            ((0, 1, 2, 3), "== == =="),
            ((1, 0, 2, 3), "== == x="),
            ((3, 2, 1, 0), "== xx xx"),
            ((0, 2, 1, 3), "=x =x =x"),
            ((1, 2, 3, 0), "== =x xx"),
            ((3, 0, 1, 2), "== x= xx"),
        ):
            m = len(order) // 2
            self.assertEqual(show_setting(whole(m), self.told(setting_for, order)), text, order)

    def test_in_place_all_is_straight(self):
        for m in range(1, 6):
            setting = self.told(setting_for, tuple(range(2**m)))
            self.assertEqual(sum(map(sum, setting)), 0)

    def test_leads_the_order(self):
        for m, orders in orders_asked().items():
            for order in orders:
                setting = self.told(setting_for, order)
                self.assertTrue(is_setting(whole(m), setting))
                self.assertEqual(order_led(whole(m), setting), order)
                self.assertTrue(leads(whole(m), setting, order))

    def test_made_by_fixed_sides_and_so_are_the_halves(self):
        for m, orders in orders_asked().items():
            for order in orders if m > 1 else ():
                sides = slow_fixed(order)
                setting = setting_for(order)
                self.assertEqual((setting[0], setting[-1]), slow_ends(order, sides))
                even, odd = slow_halves(order, sides)
                self.assertEqual(half_settings(setting), (setting_for(even), setting_for(odd)))


class SparedSettingTest(AskingTest):
    def test_written_out(self):
        for order, text in (
            ((0, 1), "="),
            ((1, 0), "x"),
            ((0, 1, 2, 3), "== == ="),
            ((1, 0, 2, 3), "x= == ="),
            ((3, 2, 1, 0), "=x xx x"),
            ((0, 2, 1, 3), "=x =x x"),
            ((1, 2, 3, 0), "xx x= ="),
        ):
            m = len(order) // 2
            self.assertEqual(show_setting(spared(m), self.told(spared_setting, order)), text, order)

    def test_leads_the_order(self):
        for m, orders in orders_asked().items():
            for order in orders:
                setting = self.told(spared_setting, order)
                self.assertTrue(is_setting(spared(m), setting))
                self.assertEqual(order_led(spared(m), setting), order)
                self.assertTrue(leads(spared(m), setting, order))

    def test_one_ring_alone_is_turned_about(self):
        for m, orders in orders_asked().items():
            for order in orders if m > 1 else ():
                sides = slow_spared_sides(order)
                first, last = slow_ends(order, sides)
                self.assertEqual(last[0], 0)
                setting = spared_setting(order)
                self.assertEqual((setting[0], setting[-1]), (first, last[1:]))
                even, odd = slow_halves(order, sides)
                self.assertEqual(half_settings(setting), (spared_setting(even), spared_setting(odd)))

    def test_fewer_switches(self):
        for m in range(2, 6):
            order = turned_order(2**m, 1)
            self.assertEqual(sum(map(len, spared_setting(order))), many_switches(spared(m)))
            self.assertLess(many_switches(spared(m)), sum(map(len, setting_for(order))))


class ManySettingsTest(AskingTest):
    def test_all_orders_of_2_and_4_wires_held_against_all_settings(self):
        for m in (1, 2):
            led = Counter(order_led(whole(m), setting) for setting in all_settings(whole(m)))
            for order in all_orders(2**m):
                self.assertEqual(repr(self.told(many_settings, order)), repr(led[order]))

    def test_written_out(self):
        self.assertEqual(many_settings((0, 1)), 1)
        self.assertEqual(many_settings((1, 0)), 1)
        self.assertEqual(many_settings((0, 1, 2, 3)), 4)
        self.assertEqual(many_settings((0, 2, 1, 3)), 2)
        # Each of 16 sides gives both halves each thing's own place, which four settings lead.
        self.assertEqual(many_settings(tuple(range(8))), 256)

    def test_orders_of_8_wires_held_against_the_middle(self):
        # Settings of the first two and of the last three stages meet in the middle.
        many, stages = whole(3)
        ahead = [order_led((many, stages[:2]), s) for s in all_settings((many, stages[:2]))]
        behind = Counter(order_led((many, stages[2:]), s) for s in all_settings((many, stages[2:])))
        for order in sample_orders(8, 60) + [mates_kept(8, seed) for seed in range(10)]:
            expected = sum(behind[after(back_of(one), order)] for one in ahead)
            self.assertEqual(repr(self.told(many_settings, order)), repr(expected))

    def test_over_all_sides_that_fit(self):
        for order in sample_orders(8, 10):
            halves = [slow_halves(order, sides) for sides in every_sides(order)]
            self.assertEqual(many_settings(order), sum(many_settings(e) * many_settings(o) for e, o in halves))


if __name__ == "__main__":
    unittest.main()
