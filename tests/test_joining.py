"""Point 9, and point 3 as far as it speaks of nets put together."""

import unittest
from itertools import product

from switchrows.joining import about, about_setting, behind, beside, laid
from switchrows.nets import is_net, is_setting
from switchrows.nettexts import show_net
from switchrows.orders import after, back_of
from switchrows.walking import order_led, way_of
from tests.samples import EMPTY_STAGES, MIXED, ONE_SWITCH, ONE_WIRE, SMALL_NETS, THREE
from tests.samples import all_settings

TWO_STAGES = (3, (((0, 2),), ((1, 2),)))


class JoiningTest(unittest.TestCase):
    def told(self, joined, expected):
        """Equal in kind too: tuples all the way down, numbers that are no truths."""
        self.assertEqual(repr(joined), repr(expected))


class AboutTest(JoiningTest):
    def test_written_out(self):
        self.told(about(ONE_WIRE), ONE_WIRE)
        self.told(about(ONE_SWITCH), ONE_SWITCH)
        self.told(about(TWO_STAGES), (3, (((1, 2),), ((0, 2),))))
        self.told(about(MIXED), (4, (((1, 2),), ((0, 1), (2, 3)), (), ((0, 3), (1, 2)))))
        self.told(about(EMPTY_STAGES), EMPTY_STAGES)
        self.told(about_setting(()), ())
        self.told(about_setting(((0, 1), (), (1,))), ((1,), (), (0, 1)))

    def test_about_twice_is_as_it_was(self):
        for net in SMALL_NETS:
            self.told(about(about(net)), net)
            for setting in all_settings(net):
                self.told(about_setting(about_setting(setting)), setting)

    def test_leads_the_order_back(self):
        for net in SMALL_NETS + (TWO_STAGES,):
            turned = about(net)
            self.assertTrue(is_net(turned))
            for setting in all_settings(net):
                turned_setting = about_setting(setting)
                self.assertTrue(is_setting(turned, turned_setting))
                self.assertEqual(order_led(turned, turned_setting), back_of(order_led(net, setting)))


class BehindTest(JoiningTest):
    def test_written_out(self):
        self.told(behind(ONE_WIRE, ONE_WIRE), ONE_WIRE)
        self.told(behind(ONE_WIRE, (1, ((),))), (1, ((),)))
        self.told(behind(ONE_SWITCH, ONE_SWITCH), (2, (((0, 1),), ((0, 1),))))
        self.told(behind(TWO_STAGES, EMPTY_STAGES), (3, (((0, 2),), ((1, 2),), (), ())))
        self.told(behind(EMPTY_STAGES, TWO_STAGES), (3, ((), (), ((0, 2),), ((1, 2),))))
        self.told(behind((3, ()), TWO_STAGES), TWO_STAGES)
        self.told(behind(TWO_STAGES, (3, ())), TWO_STAGES)

    def test_leads_one_then_the_other(self):
        nets = [net for net in SMALL_NETS + (TWO_STAGES,) if net[0] in (1, 3)]
        for one, other in product(nets, nets):
            if one[0] == other[0]:
                both = behind(one, other)
                self.assertTrue(is_net(both))
                for setting, second in product(all_settings(one), all_settings(other)):
                    expected = after(order_led(one, setting), order_led(other, second))
                    self.assertEqual(order_led(both, setting + second), expected)

    def test_more_than_twenty_stages(self):
        net = THREE
        for _ in range(4):
            net = behind(net, net)
        self.assertTrue(is_net(net))
        self.told(net, (3, THREE[1] * 16))
        self.assertEqual(len(way_of(net, ((1,),) * 48, 0)), 49)
        self.assertEqual(order_led(net, ((1,), (1,), (1,)) * 16), (0, 1, 2))
        self.told(about(net), (3, THREE[1][::-1] * 16))
        self.assertEqual(show_net(net), "wires 3" + "\n0-1\n1-2\n0-1" * 16)


def both_settings(one, other):
    """The setting of two nets beside one another, stage by stage together."""
    deep = max(len(one), len(other))
    padded = [setting + ((),) * (deep - len(setting)) for setting in (one, other)]
    return tuple(first + second for first, second in zip(*padded))


class BesideTest(JoiningTest):
    def test_written_out(self):
        self.told(beside(ONE_WIRE, ONE_WIRE), (2, ()))
        self.told(beside(ONE_SWITCH, ONE_SWITCH), (4, (((0, 1), (2, 3)),)))
        self.told(beside(ONE_WIRE, ONE_SWITCH), (3, (((1, 2),),)))
        self.told(beside(ONE_SWITCH, ONE_WIRE), (3, (((0, 1),),)))

    def test_unlike_numbers_of_stages(self):
        self.told(beside(ONE_SWITCH, TWO_STAGES), (5, (((0, 1), (2, 4)), ((3, 4),))))
        self.told(beside(TWO_STAGES, ONE_SWITCH), (5, (((0, 2), (3, 4)), ((1, 2),))))
        self.told(beside(EMPTY_STAGES, ONE_SWITCH), (5, (((3, 4),), ())))
        self.told(beside(ONE_SWITCH, EMPTY_STAGES), (5, (((0, 1),), ())))
        self.told(beside((4, ()), TWO_STAGES), (7, (((4, 6),), ((5, 6),))))
        self.told(beside(TWO_STAGES, (4, ())), (7, (((0, 2),), ((1, 2),))))

    def test_leads_both_orders(self):
        for one, other in product(SMALL_NETS, (ONE_WIRE, ONE_SWITCH, THREE, EMPTY_STAGES, TWO_STAGES)):
            joined = beside(one, other)
            self.assertTrue(is_net(joined))
            for first, second in product(all_settings(one), all_settings(other)):
                setting = both_settings(first, second)
                self.assertTrue(is_setting(joined, setting))
                moved_on = tuple(place + one[0] for place in order_led(other, second))
                self.assertEqual(order_led(joined, setting), order_led(one, first) + moved_on)

    def test_more_than_32_wires(self):
        net = MIXED
        for _ in range(4):
            net = beside(net, net)
        self.assertTrue(is_net(net))
        self.assertEqual(net[0], 64)
        self.assertEqual(len(net[1]), 4)
        self.told(net[1][3], tuple((a + 1, a + 2) for a in range(0, 64, 4)))
        self.assertEqual(net[1][1], ())
        self.assertTrue(is_net(beside(net, about(net))))
        self.assertTrue(is_net(behind(net, about(net))))


class LaidTest(JoiningTest):
    def test_on_the_first_the_last_and_scattered_wires(self):
        self.told(laid(TWO_STAGES, (0, 1, 2), 6), (6, TWO_STAGES[1]))
        self.told(laid(TWO_STAGES, (3, 4, 5), 6), (6, (((3, 5),), ((4, 5),))))
        self.told(laid(TWO_STAGES, (0, 3, 5), 6), (6, (((0, 5),), ((3, 5),))))
        self.told(laid(MIXED, (1, 2, 5, 8), 9), (9, (((1, 8), (2, 5)), (), ((1, 2), (5, 8)), ((2, 5),))))

    def test_on_all_of_its_own_wires(self):
        for net in SMALL_NETS:
            self.told(laid(net, tuple(range(net[0])), net[0]), net)

    def test_without_switches(self):
        self.told(laid(ONE_WIRE, (4,), 5), (5, ()))
        self.told(laid(EMPTY_STAGES, (1, 2, 4), 5), (5, ((), ())))

    def test_on_more_than_32_wires(self):
        self.told(laid(ONE_SWITCH, (7, 99), 100), (100, (((7, 99),),)))

    def test_leads_its_order_on_the_wires(self):
        for net, wires in ((TWO_STAGES, (1, 2, 5)), (THREE, (0, 2, 3)), (MIXED, (0, 3, 4, 5)), (ONE_SWITCH, (2, 4))):
            on = laid(net, wires, 6)
            self.assertTrue(is_net(on))
            for setting in all_settings(net):
                expected = list(range(6))
                for wire, place in enumerate(order_led(net, setting)):
                    expected[wires[wire]] = wires[place]
                self.assertEqual(order_led(on, setting), tuple(expected))


if __name__ == "__main__":
    unittest.main()
