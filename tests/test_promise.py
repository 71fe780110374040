"""Point 3, over the whole: all parts of the program held together, each against walks."""

import unittest
from itertools import combinations, product
from random import Random

from switchrows.anychecks import all_holds, any_none_holds
from switchrows.anynets import all_or_lacks, led_any
from switchrows.anyorders import orders_led
from switchrows.around import led_around
from switchrows.aroundchecks import around_none_holds
from switchrows.bitnets import bit_net, bit_setting, first_trouble, many_led
from switchrows.comparing import compared, unsorted
from switchrows.errors import NetError, NoRow, NoText, TooMany
from switchrows.going import gone
from switchrows.halfpapers import half_paper_holds, setting_by
from switchrows.idle import filled, part_paper_holds, part_setting, part_setting_by, widened
from switchrows.joining import about, about_setting, behind, beside, laid
from switchrows.leading import setting_for, spared_setting
from switchrows.nets import is_net, is_setting
from switchrows.orders import after, back_of
from switchrows.rounds import load_of, rounds_hold, rounds_of
from switchrows.sorters import sorter
from switchrows.walking import leads, moved, order_led, way_of
from switchrows.wholes import fewest, many_switches, spared, whole
from tests.bybits import parts_that_go, plain_bits
from tests.byhalves import chance_paper
from tests.samples import SMALL_NETS, all_but, all_orders, all_parts, all_settings, all_stuck, chance_stuck
from tests.samples import sample_orders, sample_parts, shuffled_orders


def walked(net, setting, order):
    """Whether each thing, walked switch by switch here, comes to its place; idle ones anywhere."""
    at = list(range(net[0]))
    for stage, ways in zip(net[1], setting, strict=True):
        for (a, b), way in zip(stage, ways, strict=True):
            if way == 1:
                at[a], at[b] = at[b], at[a]
    return all(place is None or at[place] == wire for wire, place in enumerate(order))


def orders_asked(m):
    return all_orders(2**m) if m < 3 else sample_orders(2**m, 40)


class LeadingPromise(unittest.TestCase):
    def test_each_order_by_the_whole_and_by_the_spared_net(self):
        for m in range(1, 6):
            for order in orders_asked(m):
                for net, setting in ((whole(m), setting_for(order)), (spared(m), spared_setting(order))):
                    self.assertTrue(is_setting(net, setting))
                    self.assertTrue(walked(net, setting, order))
                    self.assertTrue(leads(net, setting, order))
                    self.assertEqual(order_led(net, setting), order)
                    self.assertEqual(tuple(way_of(net, setting, w)[-1] for w in range(2**m)), order)

    def test_the_spared_net_has_fewer_switches(self):
        self.assertEqual(many_switches(spared(1)), many_switches(whole(1)))
        for m in range(2, 6):
            self.assertLess(many_switches(spared(m)), many_switches(whole(m)))
            self.assertGreaterEqual(many_switches(spared(m)), fewest(2**m))

    def test_no_net_with_fewer_switches_than_the_fewest_leads_every_order(self):
        for many in (2, 3, 4):
            pairs = list(combinations(range(many), 2))
            for switches in product(pairs, repeat=fewest(many) - 1):
                net = (many, tuple((pair,) for pair in switches))
                self.assertLess(len(orders_led(net, ())), len(all_orders(many)))
            self.assertEqual(all_or_lacks(net)[0], "lacks")

    def test_papers_of_halves(self):
        for m in range(1, 6):
            for seed, order in enumerate(orders_asked(m)):
                paper = chance_paper(order, seed)
                self.assertTrue(half_paper_holds(order, paper))
                self.assertTrue(walked(whole(m), setting_by(order, paper), order))

    def test_idle_wires(self):
        for m in range(1, 6):
            for seed, part in enumerate(all_parts(4) if m == 2 else sample_parts(2**m, 10)):
                paper = chance_paper(part, seed)
                self.assertTrue(part_paper_holds(part, paper))
                self.assertTrue(walked(whole(m), part_setting_by(part, paper), part))
                self.assertTrue(walked(whole(m), part_setting(part), part))
        for many in range(1, 33):
            for part in sample_parts(many, 2):
                wide = widened(part)
                net = whole((len(wide) - 1).bit_length())
                self.assertTrue(walked(net, part_setting(wide), part + (None,) * (len(wide) - many)))
                self.assertTrue(walked(net, setting_for(filled(wide)), wide))


class BitsPromise(unittest.TestCase):
    def test_a_plain_bit_net_leads_just_the_orders_without_trouble(self):
        for m in (1, 2):
            for bits in plain_bits(m):
                net = bit_net(m, bits)
                led = {order: [] for order in all_orders(2**m)}
                for setting in all_settings(net):
                    led[order_led(net, setting)].append(setting)
                for order, settings in led.items():
                    trouble = first_trouble(m, bits, order)
                    self.assertEqual(len(settings), 0 if trouble else 1)
                    self.assertEqual([bit_setting(m, bits, order)], settings or [None])
                self.assertEqual(sum(map(len, led.values())), many_led(m, bits))

    def test_things_that_go_by_their_bits_and_rounds(self):
        for m in range(1, 6):
            bits_asked = plain_bits(m) if m < 4 else plain_bits(m)[-3:]
            for bits in bits_asked:
                net = bit_net(m, bits)
                for part in parts_that_go(m, bits, 8):
                    told = gone(m, bits, part)
                    if told[0] == "led":
                        self.assertTrue(walked(net, told[1], part))
                    rounds = rounds_of(m, bits, part)
                    self.assertTrue(rounds_hold(m, bits, part, rounds))
                    self.assertGreaterEqual(len(rounds), load_of(m, bits, part)[0])
                    for wires in rounds:
                        alone = tuple(d if w in wires else None for w, d in enumerate(part))
                        kind, setting = gone(m, bits, alone)
                        self.assertEqual(kind, "led")
                        self.assertTrue(walked(net, setting, alone))


class SortersPromise(unittest.TestCase):
    def test_sorters_bring_rows_to_rise_and_lead_every_order(self):
        chance = Random(1)
        for m in range(1, 5):
            net = sorter(m)
            if m < 4:
                self.assertIsNone(unsorted(net))
            for _ in range(30):
                row = tuple(chance.randrange(-9, 10) for _ in range(2**m))
                told, setting = compared(net, row)
                self.assertEqual(list(told), sorted(row))
                self.assertEqual(moved(net, setting, row), told)
            for order in orders_asked(m):
                self.assertTrue(walked(net, compared(net, order)[1], order))


class StuckPromise(unittest.TestCase):
    def test_round_stuck_switches_or_a_paper(self):
        chance = Random(2)
        for m in (1, 2, 3):
            net = whole(m)
            for order in orders_asked(m):
                for share in (5, 20, 60, 100):
                    stuck = chance_stuck(net, share, chance)
                    kind, thing = led_around(order, stuck)
                    if kind == "led":
                        self.assertTrue(walked(net, thing, order))
                        self.assertTrue(all(thing[t][j] == way for t, j, way in stuck))
                    else:
                        self.assertTrue(around_none_holds(order, stuck, thing))
                        if many_switches(net) - len(stuck) <= 10:
                            self.assertNotIn(order, orders_led(net, stuck))

    def test_any_net_round_stuck_switches_or_a_paper(self):
        chance = Random(3)
        for net in SMALL_NETS + (whole(3), whole(5), sorter(3), sorter(4)):
            for _ in range(10):
                stuck = all_but(net, min(many_switches(net), chance.randrange(11)), chance)
                led = orders_led(net, stuck)
                for order in shuffled_orders(net[0], 3) + [chance.choice(led)]:
                    kind, thing = led_any(net, stuck, order)
                    self.assertEqual(kind == "led", order in led)
                    if kind == "led":
                        self.assertTrue(walked(net, thing, order))
                        self.assertTrue(all(thing[t][j] == way for t, j, way in stuck))
                    else:
                        self.assertTrue(any_none_holds(net, stuck, order, thing))

    def test_no_paper_for_an_order_that_is_led(self):
        # Whatever paper of another order or of other stuck switches is shown.
        net = whole(2)
        stuck_asked = all_stuck(net)[::97]
        told = {(o, s): (led_around(o, s), led_any(net, s, o)) for o in all_orders(4)[::3] for s in stuck_asked}
        papers = [thing for pair in told.values() for kind, thing in pair if kind == "none"]
        for (order, stuck), (kind, _) in told.items():
            if kind[0] == "led":
                for paper in papers:
                    self.assertFalse(around_none_holds(order, stuck, paper))
                    self.assertFalse(any_none_holds(net, stuck, order, paper))

    def test_all_orders_of_small_nets(self):
        for net in SMALL_NETS + (whole(2), spared(2), sorter(2)):
            told = all_or_lacks(net)
            self.assertTrue(all_holds(net, told))
            led = orders_led(net, ())
            self.assertEqual(told[0] == "all", list(led) == all_orders(net[0]))
            if told[0] == "lacks":
                self.assertEqual(told[1], min(order for order in all_orders(net[0]) if order not in led))


class JoinedPromise(unittest.TestCase):
    def test_nets_about_behind_beside_and_laid(self):
        chance = Random(4)
        nets = [whole(2), spared(2), sorter(2), bit_net(2, (1, 0))]
        for one, other in product(nets, repeat=2):
            ways = [tuple(tuple(chance.randrange(2) for _ in stage) for stage in net[1]) for net in (one, other)]
            led = [order_led(net, setting) for net, setting in zip((one, other), ways)]
            self.assertTrue(walked(about(one), about_setting(ways[0]), back_of(led[0])))
            self.assertTrue(walked(behind(one, other), ways[0] + ways[1], after(led[0], led[1])))
            both = beside(one, other)
            self.assertTrue(is_net(both))
            deep = max(map(len, ways))
            padded = [setting + ((),) * (deep - len(setting)) for setting in ways]
            setting = tuple(first + second for first, second in zip(*padded))
            self.assertTrue(walked(both, setting, led[0] + tuple(4 + place for place in led[1])))
            wires = tuple(sorted(chance.sample(range(9), 4)))
            order = list(range(9))
            for wire, place in enumerate(led[0]):
                order[wires[wire]] = wires[place]
            self.assertTrue(walked(laid(one, wires, 9), ways[0], order))


class RefusalsPromise(unittest.TestCase):
    def test_no_refusal_stands_under_another_one(self):
        kinds = (NoText, NoRow, TooMany)
        for kind in kinds:
            self.assertTrue(issubclass(kind, NetError))
            self.assertFalse(any(issubclass(kind, other) for other in kinds if other is not kind))
            self.assertEqual(str(kind("why")), "why")


if __name__ == "__main__":
    unittest.main()
