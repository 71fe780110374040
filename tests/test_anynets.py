"""Points 31 and 32, and 2 and 3 of them: orders led by any net round stuck switches, and all orders of a small one."""

import unittest
from random import Random

from switchrows.anynets import all_or_lacks, led_any
from switchrows.anyorders import orders_led
from switchrows.around import led_around
from switchrows.bitnets import bit_net
from switchrows.errors import TooMany
from switchrows.joining import about, behind, beside, laid
from switchrows.nets import is_setting
from switchrows.sorters import merger, sorter
from switchrows.stuck import agrees
from switchrows.walking import order_led
from switchrows.wholes import many_switches, spared, whole
from tests.asking import AskingTest
from tests.byany import as_told, led_orders, slow_any_holds
from tests.samples import EMPTY_STAGES, MIXED, ONE_SWITCH, ONE_WIRE, SMALL_NETS, THREE
from tests.samples import all_but, all_orders, all_stuck, chance_stuck, sample_orders, shuffled_orders, switches_of

TWO = (3, (((0, 1),), ((1, 2),)))
TEN = (3, (((0, 1),), ((1, 2),)) * 5)
ELEVEN = (3, TEN[1] + (((0, 2),),))
FOUR_TEN = (4, (((0, 1), (2, 3)), ((0, 2), (1, 3))) * 2 + (((0, 3), (1, 2)),))
FOUR_ELEVEN = (4, FOUR_TEN[1] + (((0, 1),),))


class AnyTest(AskingTest):
    def any_led(self, net, stuck, order, is_led):
        """What is told, walked or read."""
        kind, thing = led_any(net, stuck, order)
        if is_led:
            self.assertEqual(kind, "led")
            self.assertTrue(is_setting(net, thing))
            self.assertTrue(agrees(stuck, thing))
            self.assertEqual(order_led(net, thing), order)
        else:
            self.assertEqual(kind, "none")
            self.assertTrue(slow_any_holds(net, as_told(stuck), order, thing), (net, stuck, order, thing))
        return thing

    def test_written_out(self):
        self.assertEqual(self.told(led_any, ONE_WIRE, (), (0,)), ("led", ()))
        self.assertEqual(self.told(led_any, (1, ((), ())), (), (0,)), ("led", ((), ())))
        self.assertEqual(self.told(led_any, ONE_SWITCH, (), (1, 0)), ("led", ((1,),)))
        self.assertEqual(self.told(led_any, ONE_SWITCH, ((0, 0, 1),), (1, 0)), ("led", ((1,),)))
        self.assertEqual(self.told(led_any, ONE_SWITCH, ((0, 0, 0),), (1, 0))[0], "none")
        self.assertEqual(self.told(led_any, TWO, (), (2, 0, 1)), ("led", ((1,), (1,))))
        # The thing of wire 2 can't come to 0.
        self.assertEqual(self.told(led_any, TWO, (), (1, 2, 0))[0], "none")

    def test_no_stages_or_no_switches(self):
        for net in ((3, ()), EMPTY_STAGES):
            for order in all_orders(3):
                self.any_led(net, (), order, order == (0, 1, 2))

    def test_small_nets_against_all_settings(self):
        for net in SMALL_NETS + (TWO, spared(2), merger(2), about(TWO), laid(ONE_SWITCH, (0, 2), 3)):
            for stuck in all_stuck(net)[:: 1 if many_switches(net) < 4 else 7]:
                led = led_orders(net, as_told(stuck))
                for order in all_orders(net[0]):
                    self.any_led(net, stuck, order, order in led)

    def test_no_single_thing_is_lost(self):
        # Each thing alone can come to its place, but not all of them: so there is a case, or a crowd.
        seen = 0
        for net in (TWO, MIXED, merger(2), spared(2), bit_net(2, (0, 1))):
            for order in all_orders(net[0]):
                if order not in led_orders(net, {}):
                    paper = self.any_led(net, (), order, False)
                    seen += paper[0] != "lost"
        self.assertGreater(seen, 5)

    def test_more_wires_against_all_orders_led(self):
        chance = Random(1)
        nets = (whole(3), whole(4), bit_net(3, (0, 1, 2)), beside(whole(2), THREE), sorter(3), laid(whole(2), (1, 2, 4, 6), 7))
        for net in nets + (whole(5), (32, bit_net(5, (4, 0, 2, 1, 3, 0))[1])):
            for free in (0, 1, 4, 8, 10):
                stuck = all_but(net, min(free, many_switches(net)), chance)
                led = orders_led(net, stuck)
                for order in chance.sample(led, min(len(led), 6)):
                    self.any_led(net, stuck, order, True)
                for order in shuffled_orders(net[0], 3):
                    self.any_led(net, stuck, order, order in led)
                # Two things of an order that is led exchanged: so it is nearly led.
                order = list(chance.choice(led))
                a, b = chance.sample(range(net[0]), 2)
                order[a], order[b] = order[b], order[a]
                self.any_led(net, stuck, tuple(order), tuple(order) in led)

    def test_as_round_stuck_switches_of_whole_nets(self):
        chance = Random(2)
        for m in (1, 2, 3):
            for order in sample_orders(2**m, 10):
                stuck = all_but(whole(m), min(many_switches(whole(m)), 10), chance)
                self.assertEqual(led_any(whole(m), stuck, order)[0], led_around(order, stuck)[0])

    def test_just_ten_and_just_eleven(self):
        for order in all_orders(3):
            self.any_led(TEN, (), order, True)
            self.refused(TooMany, led_any, ELEVEN, (), order)
            for at in (0, 4, 10):
                for way in (0, 1):
                    self.any_led(ELEVEN, ((at, 0, way),), order, True)
        chance = Random(3)
        for net in (whole(3), whole(5), FOUR_ELEVEN):
            order = tuple(range(net[0]))
            self.assertIn(led_any(net, all_but(net, 10, chance), order)[0], ("led", "none"))
            self.refused(TooMany, led_any, net, all_but(net, 11, chance), order)
        # However few orders they lead.
        net = (2, (((0, 1),),) * 11)
        self.refused(TooMany, led_any, net, (), (0, 1))
        self.assertEqual(led_any(net, ((0, 0, 0),), (0, 1))[0], "led")

    def test_the_same_is_told_and_nothing_changed(self):
        chance = Random(4)
        for net in (MIXED, whole(2), FOUR_TEN, spared(2)):
            for order in sample_orders(4, 3):
                self.told(led_any, net, chance_stuck(net, 40, chance), order)

    def test_told_nets_however_great(self):
        net = whole(5)
        for _ in range(3):
            net = behind(net, net)
        net = beside(net, net)
        stuck = tuple((*place, 0) for place in switches_of(net) if place[0] > 0 or place[1] > 9)
        own = tuple(range(64))
        self.any_led(net, stuck, own, True)
        self.any_led(net, stuck, (1, 0) + own[2:18] + (19, 18) + own[20:], True)
        kind, paper = led_any(net, stuck, (2, 1, 0) + own[3:])
        self.assertEqual((kind, paper[0]), ("none", "lost"))


class AllOrLacksTest(AskingTest):
    def all_or(self, net, led):
        told = self.told(all_or_lacks, net)
        orders = all_orders(net[0])
        missing = [order for order in orders if order not in led]
        if missing:
            self.assertEqual(told[:2], ("lacks", missing[0]))
            self.assertEqual(len(told), 3)
            self.assertTrue(slow_any_holds(net, {}, missing[0], told[2]))
        else:
            self.assertEqual((told[0], len(told), len(told[1])), ("all", 2, len(orders)))
            for order, setting in zip(orders, told[1]):
                self.assertTrue(is_setting(net, setting))
                self.assertEqual(order_led(net, setting), order)
        return told[0]

    def test_written_out(self):
        self.assertEqual(self.told(all_or_lacks, ONE_WIRE), ("all", ((),)))
        self.assertEqual(self.told(all_or_lacks, (1, ((), ()))), ("all", (((), ()),)))
        self.assertEqual(self.told(all_or_lacks, ONE_SWITCH), ("all", (((0,),), ((1,),))))
        self.assertEqual(self.told(all_or_lacks, (2, ()))[:2], ("lacks", (1, 0)))
        self.assertEqual(self.told(all_or_lacks, TWO)[:2], ("lacks", (1, 2, 0)))
        self.assertEqual(self.told(all_or_lacks, EMPTY_STAGES)[:2], ("lacks", (0, 2, 1)))

    def test_nets_that_lead_all_orders(self):
        for net in (ONE_WIRE, ONE_SWITCH, THREE, whole(1), whole(2), spared(2), TEN, about(spared(2)), FOUR_TEN):
            self.assertEqual(self.all_or(net, set(all_orders(net[0]))), "all")

    def test_nets_that_lack_some(self):
        chance = Random(1)
        kinds = []
        nets = [(4, ()), MIXED, merger(2), sorter(2), bit_net(2, (0, 1)), bit_net(2, (0, 0, 0, 0, 0)), about(TWO)]
        for net in (whole(2), spared(2), THREE, sorter(2)):
            for at, number in switches_of(net):
                stage = net[1][at]
                nets.append((net[0], net[1][:at] + (stage[:number] + stage[number + 1 :],) + net[1][at + 1 :]))
        for _ in range(40):
            many = chance.randrange(2, 5)
            pairs = [(a, b) for b in range(many) for a in range(b)]
            nets.append((many, tuple((chance.choice(pairs),) for _ in range(chance.randrange(1, 8)))))
        for net in nets:
            kinds.append(self.all_or(net, led_orders(net, {})))
        self.assertEqual(set(kinds), {"all", "lacks"})

    def test_just_ten_and_just_eleven_switches(self):
        self.assertEqual(many_switches(FOUR_TEN), 10)
        self.all_or(FOUR_TEN, led_orders(FOUR_TEN, {}))
        self.refused(TooMany, all_or_lacks, FOUR_ELEVEN)
        self.refused(TooMany, all_or_lacks, ELEVEN)
        self.refused(TooMany, all_or_lacks, (2, (((0, 1),),) * 11))
        self.assertEqual(self.all_or((2, (((0, 1),),) * 10), {(0, 1), (1, 0)}), "all")

    def test_five_wires_are_too_many(self):
        self.all_or((4, (((0, 3),),)), led_orders((4, (((0, 3),),)), {}))
        for net in ((5, ()), (5, (((0, 1),),)), whole(3), whole(5), (32, ())):
            self.refused(TooMany, all_or_lacks, net)

    def test_empty_stages_between(self):
        net = (2, ((),) * 300 + (((0, 1),),) + ((),) * 300)
        self.all_or(net, {(0, 1), (1, 0)})


if __name__ == "__main__":
    unittest.main()
