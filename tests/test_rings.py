"""Points 13 to 15: rings, sides that fit, fixed sides, and the orders of both halves."""

import unittest
from itertools import product

from switchrows.nets import is_order
from switchrows.rings import fixed_sides, halves_of, rings_of, sides_fit
from tests.asking import AskingTest
from tests.byhalves import every_sides, mate, slow_fit, slow_fixed, slow_halves, slow_rings
from tests.samples import OTHER_THINGS, all_orders, changed, mates_kept, sample_orders, turned_order

# One ring of two halves, and one of the mates 0 and 1 alone.
EIGHT = (0, 1, 4, 2, 6, 5, 3, 7)
EIGHT_RINGS = ((0, 1), (2, 5, 4, 7, 6, 3))


def orders_asked():
    """Orders of 4, 8, 16 and 32 wires."""
    orders = all_orders(4)
    for many, how_many in ((8, 60), (16, 30), (32, 30)):
        orders += sample_orders(many, how_many)
    return orders


class RingsTest(AskingTest):
    def rings(self, order, expected):
        self.assertEqual(repr(self.told(rings_of, order)), repr(expected))

    def test_written_out(self):
        self.rings((0, 1, 2, 3), ((0, 1), (2, 3)))
        self.rings((2, 3, 0, 1), ((0, 1), (2, 3)))
        self.rings((1, 0, 2, 3), ((0, 1), (2, 3)))
        self.rings((0, 2, 1, 3), ((0, 2, 3, 1),))
        self.rings((0, 2, 3, 1), ((0, 3, 2, 1),))
        self.rings((3, 0, 1, 2), ((0, 3, 2, 1),))
        self.rings(EIGHT, EIGHT_RINGS)

    def test_in_place_each_pair_of_mates_is_a_ring(self):
        for many in (4, 8, 16, 32):
            pairs = tuple((k, k + 1) for k in range(0, many, 2))
            self.rings(tuple(range(many)), pairs)
            self.rings(tuple(range(many))[::-1], pairs)

    def test_as_many_rings_as_can_be(self):
        for many in (4, 8, 16, 32):
            for seed in range(20):
                pairs = tuple((k, k + 1) for k in range(0, many, 2))
                self.rings(mates_kept(many, seed), pairs)

    def test_turned_by_one_is_one_ring(self):
        for many in (4, 8, 16, 32):
            # By ends one comes to the wire ahead, by begins again to the wire ahead.
            self.rings(turned_order(many, 1), ((0, *range(many - 1, 0, -1)),))

    def test_held_against_steps_looked_for(self):
        for order in orders_asked():
            self.rings(order, slow_rings(order))

    def test_each_wire_in_one_ring_once(self):
        for order in orders_asked():
            wires = [wire for ring in rings_of(order) for wire in ring]
            self.assertEqual(sorted(wires), list(range(len(order))))

    def test_first_wires_are_the_least_left(self):
        for order in orders_asked():
            left = list(range(len(order)))
            for ring in rings_of(order):
                self.assertEqual(ring[0], min(left))
                left = [wire for wire in left if wire not in ring]
            self.assertEqual(left, [])

    def test_by_ends_and_begins_in_turn(self):
        for order in orders_asked():
            for ring in rings_of(order):
                self.assertEqual(len(ring) % 2, 0)
                for at in range(0, len(ring), 2):
                    self.assertEqual(order[ring[at + 1]], mate(order[ring[at]]))
                    self.assertEqual(ring[(at + 2) % len(ring)], mate(ring[at + 1]))


class SidesTest(AskingTest):
    def test_written_out(self):
        own = (0, 1, 2, 3)
        for sides in ((0, 1, 0, 1), (0, 1, 1, 0), (1, 0, 0, 1), (1, 0, 1, 0)):
            self.ask(True, sides_fit, own, sides)
        for sides in ((0, 1, 1, 0), (1, 0, 0, 1)):
            self.ask(True, sides_fit, (0, 2, 1, 3), sides)
        # Mates are unlike, but not those whose things go to mates; and the other way about.
        self.ask(False, sides_fit, (0, 2, 1, 3), (0, 1, 0, 1))
        self.ask(False, sides_fit, (0, 2, 1, 3), (0, 0, 1, 1))

    def test_all_tuples_for_all_orders_of_4_wires(self):
        for order in all_orders(4):
            fit = 0
            for sides in product((0, 1), repeat=4):
                expected = slow_fit(order, sides)
                self.ask(expected, sides_fit, order, sides)
                fit += expected
            self.assertEqual(fit, 2 ** len(rings_of(order)))

    def test_all_tuples_for_orders_of_8_wires(self):
        for order in sample_orders(8, 20) + [EIGHT]:
            fit = 0
            for sides in product((0, 1), repeat=8):
                expected = slow_fit(order, sides)
                self.assertIs(sides_fit(order, sides), expected)
                fit += expected
            self.assertEqual(fit, 2 ** len(rings_of(order)))

    def test_one_change(self):
        for order in [(0, 2, 1, 3), EIGHT] + sample_orders(16, 2) + sample_orders(32, 2):
            for thing in changed(slow_fixed(order)):
                self.ask(False, sides_fit, order, thing)

    def test_truths_and_texts_are_no_sides(self):
        self.ask(False, sides_fit, (0, 1, 2, 3), (False, True, False, True))
        self.ask(False, sides_fit, (0, 1, 2, 3), (0, True, 0, 1))
        self.ask(False, sides_fit, (0, 1, 2, 3), (0, 1, False, 1))
        self.ask(False, sides_fit, (0, 1, 2, 3), ("0", "1", "0", "1"))
        self.ask(False, sides_fit, (0, 1, 2, 3), "0101")

    def test_sides_of_another_number_of_wires(self):
        for sides in ((), (0,), (0, 1), (0, 1, 0), (0, 1, 0, 1, 0), (0, 1) * 4, (0, 1) * 9000):
            self.ask(False, sides_fit, (0, 1, 2, 3), sides)

    def test_other_numbers(self):
        for sides in ((0, 2, 0, 1), (-1, 1, 0, 1), (0, 1, 0, 10**39), (1, 2, 1, 2), (None, 1, 0, 1)):
            self.ask(False, sides_fit, (0, 1, 2, 3), sides)

    def test_of_anything(self):
        for order in ((0, 1, 2, 3), EIGHT, tuple(range(32))):
            for thing in OTHER_THINGS:
                self.ask(False, sides_fit, order, thing)


class FixedSidesTest(AskingTest):
    def fixed(self, order, expected):
        self.assertEqual(repr(self.told(fixed_sides, order)), repr(expected))

    def test_written_out(self):
        self.fixed((0, 1, 2, 3), (0, 1, 0, 1))
        self.fixed((2, 3, 1, 0), (0, 1, 0, 1))
        self.fixed((0, 2, 1, 3), (0, 1, 1, 0))
        self.fixed((3, 0, 1, 2), (0, 1, 0, 1))
        self.fixed(EIGHT, (0, 1, 0, 1, 0, 1, 0, 1))
        self.fixed((0, 2, 1, 3, 4, 6, 5, 7), (0, 1, 1, 0, 0, 1, 1, 0))

    def test_by_the_rings(self):
        for order in orders_asked():
            self.fixed(order, slow_fixed(order))

    def test_fit_with_0_at_first_wires(self):
        for order in orders_asked():
            sides = fixed_sides(order)
            self.ask(True, sides_fit, order, sides)
            self.assertEqual({sides[ring[0]] for ring in rings_of(order)}, {0})


class HalvesTest(AskingTest):
    def halves(self, order, sides, expected):
        self.assertEqual(repr(self.told(halves_of, order, sides)), repr(expected))

    def test_written_out(self):
        self.halves((0, 2, 1, 3), (0, 1, 1, 0), ((0, 1), (1, 0)))
        self.halves((0, 2, 1, 3), (1, 0, 0, 1), ((1, 0), (0, 1)))
        self.halves((0, 1, 2, 3), (0, 1, 1, 0), ((0, 1), (0, 1)))
        self.halves((2, 3, 1, 0), (0, 1, 0, 1), ((1, 0), (1, 0)))
        self.halves(EIGHT, (0, 1, 0, 1, 0, 1, 0, 1), ((0, 2, 3, 1), (0, 1, 2, 3)))
        self.halves(EIGHT, (0, 1, 1, 0, 1, 0, 1, 0), ((0, 1, 2, 3), (0, 2, 3, 1)))

    def test_by_fixed_sides(self):
        for order in orders_asked():
            sides = slow_fixed(order)
            self.halves(order, sides, slow_halves(order, sides))

    def test_by_all_sides_that_fit(self):
        for order in all_orders(4) + sample_orders(8, 10):
            for sides in every_sides(order):
                self.halves(order, sides, slow_halves(order, sides))
                for half in halves_of(order, sides):
                    self.assertTrue(is_order(len(order) // 2, half))

    def test_sides_turned_about_exchange_the_halves(self):
        for order in orders_asked():
            sides = slow_fixed(order)
            even, odd = halves_of(order, sides)
            self.halves(order, tuple(1 - side for side in sides), (odd, even))


if __name__ == "__main__":
    unittest.main()
