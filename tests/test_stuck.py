"""Points 29 and 30: stuck switches, settings that agree with them, and the stuck switches of a half."""

import unittest
from random import Random

from switchrows.joining import behind, beside
from switchrows.leading import setting_for
from switchrows.stuck import agrees, is_stuck, stuck_of_half
from switchrows.wholes import whole
from tests.asking import AskingTest
from tests.samples import EMPTY_STAGES, MIXED, ONE_SWITCH, ONE_WIRE, OTHER_THINGS, SMALL_NETS, THREE
from tests.samples import all_settings, all_stuck, chance_stuck, changed, sample_orders, switches_of


def slow_is_stuck(net, thing):
    """Whether a thing is among the tuples that stuck switches may be made of, and rises."""
    if type(thing) is not tuple:
        return False
    for one in thing:
        if type(one) is not tuple or len(one) != 3 or any(type(part) is not int for part in one):
            return False
        if one[:2] not in switches_of(net) or one[2] not in (0, 1):
            return False
    places = [one[:2] for one in thing]
    return places == sorted(places) and len(set(places)) == len(places)


class IsStuckTest(AskingTest):
    def test_none_are_stuck(self):
        for net in SMALL_NETS + (whole(5),):
            self.ask(True, is_stuck, net, ())

    def test_all_of_small_nets(self):
        for net in SMALL_NETS:
            for stuck in all_stuck(net):
                self.ask(True, is_stuck, net, stuck)

    def test_of_greater_nets(self):
        chance = Random(1)
        for m in range(1, 6):
            for share in (5, 50, 100):
                self.ask(True, is_stuck, whole(m), chance_stuck(whole(m), share, chance))
        great = behind(beside(whole(5), whole(5)), beside(whole(5), whole(5)))
        self.ask(True, is_stuck, great, chance_stuck(great, 100, chance))

    def test_rising(self):
        self.ask(False, is_stuck, THREE, ((1, 0, 0), (0, 0, 0)))
        self.ask(False, is_stuck, MIXED, ((0, 1, 0), (0, 0, 1)))
        self.ask(False, is_stuck, MIXED, ((0, 0, 0), (2, 1, 0), (2, 0, 0)))
        self.ask(True, is_stuck, MIXED, ((0, 1, 0), (2, 0, 0), (2, 1, 0), (3, 0, 1)))
        self.ask(True, is_stuck, MIXED, ((0, 0, 1), (0, 1, 0)))

    def test_no_switch_twice(self):
        self.ask(False, is_stuck, THREE, ((1, 0, 0), (1, 0, 0)))
        self.ask(False, is_stuck, THREE, ((1, 0, 0), (1, 0, 1)))
        self.ask(False, is_stuck, THREE, ((0, 0, 1), (1, 0, 0), (1, 0, 1), (2, 0, 0)))

    def test_stages_and_numbers_are_there(self):
        for switch in ((3, 0, 0), (-1, 0, 0), (-3, 0, 0), (0, 1, 0), (0, -1, 0), (10**39, 0, 0), (0, 10**39, 0)):
            self.ask(False, is_stuck, THREE, (switch,))
        for number in (0, 1, -1):
            self.ask(False, is_stuck, MIXED, ((1, number, 0),))
            self.ask(False, is_stuck, EMPTY_STAGES, ((0, number, 0),))
            self.ask(False, is_stuck, ONE_WIRE, ((0, number, 0),))

    def test_ways(self):
        self.ask(True, is_stuck, ONE_SWITCH, ((0, 0, 0),))
        self.ask(True, is_stuck, ONE_SWITCH, ((0, 0, 1),))
        for way in (2, -1, True, False, None, "0", "1", "=", "x", (), (0,), [1], {}):
            self.ask(False, is_stuck, ONE_SWITCH, ((0, 0, way),))

    def test_numbers_are_no_truths(self):
        net = (4, (((0, 1), (2, 3)), ((0, 1), (2, 3))))
        self.ask(True, is_stuck, net, ((0, 1, 0), (1, 0, 1), (1, 1, 0)))
        for switch in ((False, 1, 0), (True, 1, 0), (0, True, 0), (1, False, 0), (0, 1, False), (True, True, True)):
            self.ask(False, is_stuck, net, (switch,))
        for switch in (("0", 1, 0), (0, "1", 0), (None, 1, 0), (0, None, 0), ((0,), 1, 0), (0, [1], 0)):
            self.ask(False, is_stuck, net, (switch,))

    def test_each_is_a_tuple_of_three(self):
        for switch in ((), (0,), (0, 0), (0, 0, 0, 0), [0, 0, 0], {0: 0, 1: 0, 2: 0}, "000", None, 0, ((0, 0, 0),)):
            self.ask(False, is_stuck, ONE_SWITCH, (switch,))
            self.ask(False, is_stuck, THREE, ((0, 0, 0), switch))
        self.ask(False, is_stuck, ONE_SWITCH, [(0, 0, 0)])
        self.ask(False, is_stuck, ONE_SWITCH, (0, 0, 0))
        self.ask(False, is_stuck, ONE_SWITCH, {(0, 0, 0): 1})
        self.ask(False, is_stuck, ONE_SWITCH, [])

    def test_one_change(self):
        chance = Random(2)
        for net in SMALL_NETS + (whole(2), whole(3)):
            for share in (20, 60, 100):
                for thing in changed(chance_stuck(net, share, chance)):
                    self.ask(slow_is_stuck(net, thing), is_stuck, net, thing)

    def test_of_anything(self):
        for net in SMALL_NETS + (whole(3),):
            for thing in OTHER_THINGS:
                if thing != ():
                    self.ask(False, is_stuck, net, thing)


class AgreesTest(AskingTest):
    def test_written_out(self):
        setting = ((0, 1), (), (1, 1), (0,))
        for stuck, expected in (
            ((), True),
            (((0, 0, 0),), True),
            (((0, 0, 1),), False),
            (((0, 1, 1), (3, 0, 0)), True),
            (((0, 1, 1), (3, 0, 1)), False),
            (((0, 1, 0), (3, 0, 0)), False),
            (((0, 0, 0), (0, 1, 1), (2, 0, 1), (2, 1, 1), (3, 0, 0)), True),
            (((0, 0, 0), (0, 1, 1), (2, 0, 1), (2, 1, 0), (3, 0, 0)), False),
        ):
            self.ask(expected, agrees, stuck, setting)

    def test_all_of_small_nets(self):
        for net in SMALL_NETS:
            for stuck in all_stuck(net):
                for setting in all_settings(net):
                    expected = all(setting[stage][number] == way for stage, number, way in stuck)
                    self.assertIs(agrees(stuck, setting), expected)

    def test_as_many_settings_as_the_others_have_ways(self):
        for net in SMALL_NETS:
            for stuck in all_stuck(net):
                many = sum(agrees(stuck, setting) for setting in all_settings(net))
                self.assertEqual(many, 2 ** (len(switches_of(net)) - len(stuck)))

    def test_of_settings_told(self):
        for m in range(1, 6):
            for order in sample_orders(2**m, 5):
                setting = setting_for(order)
                own = tuple((*place, setting[place[0]][place[1]]) for place in switches_of(whole(m)))
                self.ask(True, agrees, own, setting)
                for at in (0, len(own) // 2, len(own) - 1):
                    stage, number, way = own[at]
                    self.ask(False, agrees, own[:at] + ((stage, number, 1 - way),) + own[at + 1 :], setting)


class HalfTest(AskingTest):
    def half(self, m, stuck, s, expected):
        self.assertEqual(repr(self.told(stuck_of_half, m, stuck, s)), repr(expected))

    def test_written_out(self):
        # Of m 2 there is one stage between the first and the last one, the even half's switch first.
        stuck = ((0, 0, 1), (0, 1, 0), (1, 0, 1), (1, 1, 0), (2, 0, 1), (2, 1, 1))
        self.half(2, stuck, 0, ((0, 0, 1),))
        self.half(2, stuck, 1, ((0, 0, 0),))
        self.half(2, ((1, 1, 1),), 0, ())
        self.half(2, ((1, 1, 1),), 1, ((0, 0, 1),))
        stuck = ((0, 3, 1), (1, 0, 0), (1, 3, 1), (2, 1, 1), (2, 2, 0), (3, 2, 1), (3, 3, 0), (4, 0, 1))
        self.half(3, stuck, 0, ((0, 0, 0), (1, 1, 0), (2, 1, 1)))
        self.half(3, stuck, 1, ((0, 1, 1), (1, 0, 1), (2, 1, 0)))

    def test_none_are_stuck(self):
        for m in range(2, 6):
            self.half(m, (), 0, ())
            self.half(m, (), 1, ())

    def test_those_of_the_first_and_last_stages_are_in_no_half(self):
        for m in range(2, 6):
            ends = [place for place in switches_of(whole(m)) if place[0] in (0, 2 * m - 2)]
            for way in (0, 1):
                stuck = tuple((*place, way) for place in ends)
                self.half(m, stuck, 0, ())
                self.half(m, stuck, 1, ())

    def test_just_those_that_point_30_tells(self):
        chance = Random(4)
        for m in range(2, 6):
            for share in (3, 20, 50, 90, 100):
                stuck = chance_stuck(whole(m), share, chance)
                for s in (0, 1):
                    every = [(t, j, way) for t in range(2 * m - 3) for j in range(2 ** (m - 2)) for way in (0, 1)]
                    expected = tuple(one for one in every if (one[0] + 1, 2 * one[1] + s, one[2]) in stuck)
                    self.half(m, stuck, s, expected)
                    self.assertTrue(is_stuck(whole(m - 1), expected))

    def test_settings_agree_just_where_those_of_the_halves_do(self):
        chance = Random(5)
        for m in range(2, 6):
            for order in sample_orders(2**m, 10):
                setting = setting_for(order)
                between = [place for place in switches_of(whole(m)) if 0 < place[0] < 2 * m - 2]
                some = sorted(chance.sample(between, min(4, len(between))))
                stuck = tuple((t, j, setting[t][j] ^ (chance.randrange(6) == 0)) for t, j in some)
                halves = [tuple(ways[s::2] for ways in setting[1:-1]) for s in (0, 1)]
                both = [agrees(stuck_of_half(m, stuck, s), halves[s]) for s in (0, 1)]
                self.ask(all(both), agrees, stuck, setting)


if __name__ == "__main__":
    unittest.main()
