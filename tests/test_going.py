"""Point 24, and 3 of it: things that go by the bits of their own places."""

import unittest

from switchrows.bitnets import bit_net, bit_setting, first_trouble
from switchrows.going import gone
from switchrows.idle import widened
from switchrows.nets import is_setting
from switchrows.walking import leads, moved
from tests.asking import AskingTest
from tests.bybits import plain_bits, slow_gone
from tests.samples import all_orders, all_parts, sample_orders, sample_parts


def parts_asked():
    """For each m from 1 to 5, part orders of 2 ** m wires."""
    return {1: all_parts(2), 2: all_parts(4), 3: sample_parts(8, 20), 4: sample_parts(16, 5), 5: sample_parts(32, 5)}


def some_bits(m):
    """Plain bits of m: of few all, of more some, all of them in several orders among these."""
    bits = plain_bits(m)
    return bits if m < 4 else bits[:6] + bits[6::31] + bits[-3:] + [tuple(range(m))]


class GoneTest(AskingTest):
    def goes(self, m, bits, part, expected):
        self.assertEqual(repr(self.told(gone, m, bits, part)), repr(expected))

    def test_written_out_stays(self):
        self.goes(1, (), (1, None), ("stays", 0))
        self.goes(1, (), (None, 0), ("stays", 1))
        self.goes(2, (0,), (None, 2, 1, 3), ("stays", 1))
        self.goes(2, (0,), (None, None, 1, 3), ("stays", 2))
        self.goes(3, (2, 0), (4, 5, None, None, None, 1, 0, 2), ("stays", 6))

    def test_written_out_meet(self):
        self.goes(2, (0, 1), (0, 2, 1, 3), ("meet", 0, 0, 0, 1))
        self.goes(2, (0, 1), (None, None, 1, 3), ("meet", 0, 3, 2, 3))
        self.goes(2, (1, 0), (0, None, 1, None), ("meet", 0, 0, 0, 2))
        # They want one wire only at the second stage, and the wires told are those at which they began.
        self.goes(3, (0, 1, 2), (None, None, None, None, None, 0, None, 4), ("meet", 1, 4, 5, 7))
        self.goes(3, (0, 1, 2), (1, None, 5, None, None, None, None, None), ("meet", 1, 1, 0, 2))

    def test_written_out_led(self):
        self.goes(1, (), (None, None), ("led", ()))
        self.goes(1, (), (0, None), ("led", ()))
        self.goes(1, (0,), (None, None), ("led", ((0,),)))
        self.goes(1, (0,), (None, 0), ("led", ((1,),)))
        self.goes(1, (0,), (None, 1), ("led", ((0,),)))
        self.goes(2, (0, 1), (3, None, None, None), ("led", ((1, 0), (0, 1))))
        self.goes(2, (1, 0), (3, None, None, None), ("led", ((1, 0), (0, 1))))
        self.goes(2, (1, 0), (None, 2, None, None), ("led", ((0, 1), (0, 1))))

    def test_stays_goes_ahead_of_all_meetings(self):
        part = (0, 2, 1, 3, None, None, None, None)
        self.goes(3, (0, 1), part, ("meet", 0, 0, 0, 1))
        self.goes(3, (0, 1), part[:7] + (4,), ("meet", 0, 0, 0, 1))
        self.goes(3, (0, 1), (0, 2, 1, None, None, None, None, 3), ("stays", 7))

    def test_idle_things_neither_stay_nor_meet(self):
        self.goes(2, (0, 1), (0, None, 1, None), ("led", ((0, 1), (0, 1))))
        self.goes(2, (0,), (0, None, None, 3), ("led", ((0, 0),)))
        for m in range(1, 6):
            for bits in some_bits(m):
                self.goes(m, bits, (None,) * 2**m, ("led", tuple((0,) * 2 ** (m - 1) for _ in bits)))

    def test_held_against_things_gone_one_by_one(self):
        for m, parts in parts_asked().items():
            for bits in some_bits(m):
                for part in parts:
                    self.goes(m, bits, part, slow_gone(m, bits, part))

    def test_led_things_come_to_their_places(self):
        many = 0
        for m, parts in parts_asked().items():
            for bits in some_bits(m):
                net = bit_net(m, bits)
                for part in parts:
                    told = gone(m, bits, part)
                    if told[0] != "led":
                        continue
                    many += 1
                    self.assertTrue(is_setting(net, told[1]))
                    self.assertTrue(leads(net, told[1], part))
                    row = moved(net, told[1], tuple(range(2**m)))
                    self.assertTrue(all(row[d] == w for w, d in enumerate(part) if d is not None))
        self.assertGreater(many, 200)

    def test_each_kind_is_told_of_each_m(self):
        for m, parts in parts_asked().items():
            kinds = {gone(m, bits, part)[0] for bits in some_bits(m) for part in parts}
            self.assertEqual(kinds, {"stays", "led"} if m == 1 else {"stays", "meet", "led"})

    def test_of_orders_as_trouble_tells(self):
        for m in range(1, 6):
            orders = all_orders(2**m) if m < 3 else sample_orders(2**m, 10)
            for bits in some_bits(m):
                for order in orders:
                    told = gone(m, bits, order)
                    trouble = first_trouble(m, bits, order)
                    if told[0] == "led":
                        self.assertIsNone(trouble)
                        self.assertEqual(told[1], bit_setting(m, bits, order))
                    else:
                        self.assertEqual(trouble, told if told[0] == "stays" else ("clash", *told[1:3]))

    def test_a_widened_part_order_may_be_handed_in(self):
        self.goes(3, (0, 1, 2), widened((1, 0, 2, 4, 3)), slow_gone(3, (0, 1, 2), (1, 0, 2, 4, 3, None, None, None)))


if __name__ == "__main__":
    unittest.main()
