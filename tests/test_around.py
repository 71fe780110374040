"""Point 30, and 3 of it: orders led round stuck switches of the whole net, or a paper that none is."""

import unittest
from random import Random

from switchrows.anyorders import orders_led
from switchrows.around import led_around
from switchrows.leading import many_settings
from switchrows.nets import is_setting
from switchrows.stuck import agrees
from switchrows.walking import leads, order_led
from switchrows.wholes import whole
from tests.asking import AskingTest
from tests.byways import kinds_of, slow_agrees, slow_led, slow_none_holds
from tests.samples import all_but, all_orders, all_settings, all_stuck, chance_stuck, mates_kept, sample_orders
from tests.samples import shuffled_orders, switches_of


def all_of(setting):
    """All switches stuck as in a setting."""
    return tuple((at, number, way) for at, ways in enumerate(setting) for number, way in enumerate(ways))


class AroundTest(AskingTest):
    def around(self, order, stuck, is_led):
        """What is told, walked or read."""
        kind, thing = led_around(order, stuck)
        if is_led:
            net = whole({2: 1, 4: 2, 8: 3}[len(order)])
            self.assertEqual(kind, "led")
            self.assertTrue(is_setting(net, thing))
            self.assertTrue(slow_agrees(stuck, thing) and agrees(stuck, thing))
            self.assertEqual(order_led(net, thing), order)
        else:
            self.assertEqual(kind, "none")
            self.assertTrue(slow_none_holds(order, stuck, thing), (order, stuck, thing))
        return (kind, thing)

    def test_written_out_of_two_wires(self):
        for order in ((0, 1), (1, 0)):
            asks = order[0]
            self.assertEqual(self.told(led_around, order, ()), ("led", ((asks,),)))
            self.assertEqual(self.told(led_around, order, ((0, 0, asks),)), ("led", ((asks,),)))
            self.assertEqual(self.told(led_around, order, ((0, 0, 1 - asks),)), ("none", ("one",)))

    def test_written_out_of_four_wires(self):
        # Both rings of the own order want the switches of their first and last stages alike.
        own = (0, 1, 2, 3)
        self.around(own, ((0, 1, 1), (2, 1, 1)), True)
        self.around(own, ((0, 1, 1), (2, 1, 0)), False)
        self.around(own, ((0, 0, 1), (0, 1, 1)), True)
        # By each of the four sides the halves want straight switches, and that of the odd half is crossed.
        self.assertEqual(led_around(own, ((1, 1, 1),)), ("none", ("ways", ((1, ("one",)),) * 4)))
        self.assertEqual(led_around(own, ((0, 0, 0), (1, 0, 1))), ("none", ("ways", ((0, ("one",)),) * 2)))

    def test_two_wires(self):
        for order in all_orders(2):
            for stuck in all_stuck(whole(1)):
                settings = [s for s in all_settings(whole(1)) if slow_agrees(stuck, s)]
                self.around(order, stuck, any(leads(whole(1), s, order) for s in settings))

    def test_four_wires_against_all_settings(self):
        led_by = {order: [] for order in all_orders(4)}
        for setting in all_settings(whole(2)):
            led_by[order_led(whole(2), setting)].append(setting)
        kinds = set()
        for order, settings in led_by.items():
            for stuck in all_stuck(whole(2)):
                told = self.around(order, stuck, any(slow_agrees(stuck, s) for s in settings))
                kinds |= {("led",)} if told[0] == "led" else kinds_of(told[1])
        self.assertLessEqual({("led",), ("barred",), ("ways",), ("ways", "one")}, kinds)

    def test_eight_wires_against_all_sides(self):
        chance = Random(1)
        kinds = set()
        orders = sample_orders(8, 12) + [mates_kept(8, seed) for seed in range(10, 16)]
        for order in orders:
            for share in (5, 10, 15, 20, 30, 60):
                for _ in range(4):
                    stuck = chance_stuck(whole(3), share, chance)
                    told = self.around(order, stuck, slow_led(order, stuck))
                    kinds |= {("led",)} if told[0] == "led" else kinds_of(told[1])
        wanted = {("led",), ("barred",), ("ways",), ("ways", "barred"), ("ways", "ways"), ("ways", "ways", "one")}
        self.assertLessEqual(wanted, kinds)

    def test_eight_wires_with_ten_free_against_all_settings(self):
        chance = Random(2)
        for free in (0, 1, 5, 8, 10):
            for _ in range(3):
                stuck = all_but(whole(3), free, chance)
                led = orders_led(whole(3), stuck)
                for order in chance.sample(led, min(len(led), 15)):
                    self.around(order, stuck, True)
                for order in shuffled_orders(8, 10):
                    self.around(order, stuck, order in led)

    def test_none_stuck_leads_every_order(self):
        for m, how_many in ((1, 5), (2, 30), (3, 60)):
            for order in sample_orders(2**m, how_many):
                self.around(order, (), True)

    def test_all_stuck_leads_one_order(self):
        chance = Random(3)
        for m in (1, 2, 3):
            for _ in range(20):
                stuck = all_but(whole(m), 0, chance)
                ways = iter(stuck)
                setting = tuple(tuple(next(ways)[2] for _ in stage) for stage in whole(m)[1])
                led = order_led(whole(m), setting)
                self.assertEqual(self.told(led_around, led, stuck), ("led", setting))
                for order in sample_orders(2**m, 5):
                    self.around(order, stuck, order == led)

    def test_one_stuck_switch(self):
        for m in (1, 2, 3):
            for order in sample_orders(2**m, 4):
                for place in switches_of(whole(m)):
                    for way in (0, 1):
                        stuck = ((*place, way),)
                        self.around(order, stuck, slow_led(order, stuck))

    def test_as_many_settings_as_are_told(self):
        # Each setting found is barred by its own switches turned, till none is left: so all are found.
        for order in sample_orders(4, 6):
            found = set()
            waiting = [()]
            while waiting:
                stuck = waiting.pop()
                kind, thing = led_around(order, stuck)
                if kind == "led":
                    found.add(thing)
                    own = all_of(thing)
                    for at in range(len(stuck), len(own)):
                        waiting.append(own[:at] + (own[at][:2] + (1 - own[at][2],),))
            self.assertEqual(len(found), many_settings(order))

    def test_the_same_is_told_and_nothing_changed(self):
        chance = Random(4)
        for m in (1, 2, 3):
            for order in sample_orders(2**m, 4):
                for share in (0, 10, 40, 100):
                    told = self.told(led_around, order, chance_stuck(whole(m), share, chance))
                    self.assertIs(type(told), tuple)
                    self.assertEqual(len(told), 2)


if __name__ == "__main__":
    unittest.main()
