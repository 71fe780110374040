"""Point 25, and 2 and 3 of it: rounds of things that go by their own bits, and the load."""

import unittest
from itertools import combinations
from random import Random

from switchrows.bitnets import bit_net
from switchrows.going import gone
from switchrows.idle import widened
from switchrows.rounds import load_of, rounds_hold, rounds_of
from switchrows.walking import moved
from tests.asking import AskingTest
from tests.bybits import parts_that_go, plain_bits, slow_load, slow_meet, slow_rounds
from tests.samples import OTHER_THINGS, all_parts, changed

OWN = (0, 1, 2, 3)
# At the first stage 0 and 1 both want wire 0, and 2 and 3 both want wire 3.
CROSSED = (0, 2, 1, 3)


def asked():
    """Each m from 1 to 5 with plain bits in any order and part orders none of whose things stays."""
    for m in range(1, 6):
        bits = plain_bits(m)
        for some in bits if m < 4 else bits[:4] + bits[4::17] + bits[-4:]:
            for part in parts_that_go(m, some, 8):
                yield m, some, part
    for bits in ((0, 1), (1, 0)):
        for part in all_parts(4):
            yield 2, bits, part


def busy(part):
    return [w for w, d in enumerate(part) if d is not None]


def sub_part(part, wires):
    return tuple(d if w in wires else None for w, d in enumerate(part))


def slow_hold(m, bits, part, thing):
    """Whether a thing is rounds, each two of each round held against one another."""
    if type(thing) is not tuple:
        return False
    for wires in thing:
        if type(wires) is not tuple or not wires or any(type(w) is not int for w in wires):
            return False
        if list(wires) != sorted(set(wires)) or any(w not in range(2**m) for w in wires):
            return False
    if sorted(w for wires in thing for w in wires) != busy(part):
        return False
    return not any(slow_meet(bits, part, v, w) for wires in thing for v, w in combinations(wires, 2))


class RoundsOfTest(AskingTest):
    def rounds(self, m, bits, part, expected):
        self.assertEqual(repr(self.told(rounds_of, m, bits, part)), repr(expected))

    def test_written_out(self):
        self.rounds(1, (), (0, 1), ((0, 1),))
        self.rounds(1, (0,), (1, 0), ((0, 1),))
        self.rounds(2, (0, 1), OWN, (OWN,))
        self.rounds(2, (0, 1), CROSSED, ((0, 2), (1, 3)))
        self.rounds(2, (1, 0), CROSSED, ((0, 1), (2, 3)))
        self.rounds(2, (0, 1), (None, 2, 1, 3), ((1, 2), (3,)))
        self.rounds(2, (0, 1), (None, None, 1, 3), ((2,), (3,)))

    def test_no_thing_no_round(self):
        for m in range(1, 6):
            for bits in plain_bits(m)[::7]:
                self.rounds(m, bits, (None,) * 2**m, ())

    def test_without_bits_all_come_through_at_once(self):
        self.rounds(2, (), OWN, (OWN,))
        self.rounds(2, (), (0, None, 2, None), ((0, 2),))

    def test_who_falls_out_stands_in_no_ones_way(self):
        # 1 falls out at the first stage by 0, and so doesn't meet 2 at the second one, which it would meet alone.
        part = (0, 2, 6, None, None, None, None, None)
        self.assertTrue(slow_meet((0, 1, 2), part, 0, 1))
        self.assertTrue(slow_meet((0, 1, 2), part, 1, 2))
        self.assertFalse(slow_meet((0, 1, 2), part, 0, 2))
        self.rounds(3, (0, 1, 2), part, ((0, 2), (1,)))

    def test_who_goes_on_may_fall_out_later(self):
        # 2 beats 3 at the first stage, and is beaten by 0 at the second one.
        part = (1, None, 5, 7, None, None, None, None)
        self.rounds(3, (0, 1, 2), part, ((0,), (2,), (3,)))

    def test_held_against_the_going_thing_by_thing(self):
        for m, bits, part in asked():
            self.rounds(m, bits, part, slow_rounds(bits, part))

    def test_told_rounds_hold_and_each_is_led(self):
        for m, bits, part in asked():
            rounds = rounds_of(m, bits, part)
            self.assertIs(rounds_hold(m, bits, part, rounds), True)
            net = bit_net(m, bits)
            for wires in rounds:
                told = gone(m, bits, sub_part(part, wires))
                self.assertEqual(told[0], "led")
                row = moved(net, told[1], tuple(range(2**m)))
                self.assertTrue(all(row[part[w]] == w for w in wires))

    def test_widened_part_orders_may_be_handed_in(self):
        part = widened((4, 0, None, 1, 3))
        self.rounds(3, (0, 1, 2), part, slow_rounds((0, 1, 2), part))


class RoundsHoldTest(AskingTest):
    def test_each_thing_alone(self):
        for m, bits, part in asked():
            self.assertIs(rounds_hold(m, bits, part, tuple((w,) for w in busy(part))), True)
            self.assertIs(rounds_hold(m, bits, part, tuple((w,) for w in reversed(busy(part)))), True)

    def test_two_rounds_exchanged(self):
        many = 0
        for m, bits, part in asked():
            rounds = rounds_of(m, bits, part)
            if len(rounds) > 1:
                many += 1
                self.assertIs(rounds_hold(m, bits, part, rounds[1:] + rounds[:1]), True)
        self.assertGreater(many, 100)

    def test_rounds_of_chance(self):
        chance = Random(1)
        told = {True: 0, False: 0}
        for m, bits, part in asked():
            for least in (1, 2, 3):
                rounds = [[] for _ in range(least)]
                for w in busy(part):
                    chance.choice(rounds).append(w)
                thing = tuple(tuple(wires) for wires in rounds if wires)
                expected = slow_hold(m, bits, part, thing)
                told[expected] += 1
                self.assertIs(rounds_hold(m, bits, part, thing), expected)
        self.assertGreater(min(told.values()), 200)

    def test_all_at_once_just_where_none_meet(self):
        for m, bits, part in asked():
            if busy(part):
                expected = gone(m, bits, part)[0] == "led"
                self.assertIs(rounds_hold(m, bits, part, (tuple(busy(part)),)), expected)

    def test_two_that_meet(self):
        for thing in (((0, 1), (2, 3)), (OWN,), ((0,), (1,), (2, 3)), ((0, 2, 3), (1,))):
            self.ask(False, rounds_hold, 2, (0, 1), CROSSED, thing)
        for thing in (((0, 2), (1, 3)), ((0, 3), (1, 2)), ((1,), (0, 3), (2,))):
            self.ask(True, rounds_hold, 2, (0, 1), CROSSED, thing)
        # Only at the second stage, and only at the first one.
        self.ask(False, rounds_hold, 3, (0, 1, 2), (None, None, None, None, None, 0, None, 4), ((5, 7),))
        self.ask(True, rounds_hold, 3, (0, 1, 2), (None, None, None, None, None, 0, None, 4), ((7,), (5,)))
        self.ask(False, rounds_hold, 3, (2, 1, 0), (0, None, None, None, 3, None, None, None), ((0, 4),))

    def test_none_idle_all_once(self):
        part = (0, None, 1, 3)
        self.ask(True, rounds_hold, 2, (0, 1), part, ((0, 2), (3,)))
        for thing in (((0, 2),), ((3,),), (), ((0, 2), (3,), (3,)), ((0, 2), (2, 3)), ((0, 1, 2), (3,)),
                      ((0, 2), (3,), (1,)), ((0, 2), (0,), (3,)), ((0, 0, 2), (3,)), ((0, 2), (4,)), ((0, 2), (-1,))):
            self.ask(False, rounds_hold, 2, (0, 1), part, thing)
        self.ask(True, rounds_hold, 2, (0, 1), (None,) * 4, ())
        self.ask(False, rounds_hold, 2, (0, 1), (None,) * 4, ((0,),))
        self.ask(False, rounds_hold, 2, (0, 1), (None,) * 4, ((),))

    def test_rising_and_never_empty(self):
        for thing in (((2, 0), (1, 3)), ((0, 2), (3, 1)), ((0, 2), (), (1, 3)), ((0, 2), (1, 3), ()), ((),)):
            self.ask(False, rounds_hold, 2, (0, 1), CROSSED, thing)
        self.ask(False, rounds_hold, 1, (), (0, 1), ((1, 0),))

    def test_truths_lists_and_other_kinds(self):
        self.ask(True, rounds_hold, 1, (0,), (1, 0), ((0, 1),))
        for thing in (((False, 1),), ((0, True),), ([0, 1],), [(0, 1)], ((0, "1"),), ((0, None),), (((0,), 1),),
                      ({0: 0, 1: 1},), {(0, 1): 0}, ("01",), ((0,), [1]), (0, 1), ((0, 1), None), (((0, 1),),)):
            self.ask(False, rounds_hold, 1, (0,), (1, 0), thing)
        for thing in OTHER_THINGS:
            self.ask(False, rounds_hold, 2, (0, 1), CROSSED, thing)
            self.ask(thing == () and type(thing) is tuple, rounds_hold, 2, (0, 1), (None,) * 4, thing)

    def test_one_change(self):
        for m, bits, part in list(asked())[::11]:
            if m < 4:
                for thing in changed(rounds_of(m, bits, part)):
                    self.ask(slow_hold(m, bits, part, thing), rounds_hold, m, bits, part, thing)


class LoadOfTest(AskingTest):
    def load(self, m, bits, part, expected):
        self.assertEqual(repr(self.told(load_of, m, bits, part)), repr(expected))

    def test_written_out(self):
        self.load(1, (0,), (1, 0), (1, 0, 0))
        self.load(1, (0,), (None, 0), (1, 0, 0))
        self.load(1, (0,), (1, None), (1, 0, 1))
        self.load(2, (0, 1), OWN, (1, 0, 0))
        self.load(2, (0, 1), CROSSED, (2, 0, 0))
        self.load(2, (0, 1), (None, None, 1, 3), (2, 0, 3))
        # Each goes as if it were alone: four things come to wire 0 behind two stages.
        self.load(3, (0, 1, 2), (0, 4, None, None, None, None, None, None), (2, 0, 0))
        part = (0, 4, 8, 12) + (None,) * 12
        self.load(4, (0, 1, 2, 3), part, (4, 1, 0))

    def test_where_no_thing_wants_any_wire(self):
        for m in range(1, 6):
            self.load(m, (), tuple(range(2**m)), (0, None, None))
            for bits in plain_bits(m)[::7]:
                self.load(m, bits, (None,) * 2**m, (0, None, None))

    def test_the_first_stage_and_there_the_least_wire(self):
        # At the second stage two want wire 1 and two want wire 4.
        self.load(3, (0, 1, 2), (1, None, 5, None, None, 0, None, 4), (2, 1, 1))
        # At the second stage two want wire 9; at the third one two want wire 0.
        part = (0, None, None, None, 8, None, None, None, None, 5, None, 13, None, None, None, None)
        self.load(4, (0, 1, 2, 3), part, (2, 1, 9))
        self.load(4, (0, 1, 2, 3), part[:9] + (None,) + part[10:], (2, 2, 0))

    def test_held_against_a_count_of_all(self):
        stages = set()
        for m, bits, part in asked():
            expected = slow_load(m, bits, part)
            stages.add(expected[1])
            self.load(m, bits, part, expected)
        self.assertLessEqual({None, 0, 1, 2}, stages)

    def test_no_rounds_are_fewer(self):
        tight = 0
        for m, bits, part in asked():
            rounds = len(rounds_of(m, bits, part))
            number = load_of(m, bits, part)[0]
            self.assertGreaterEqual(rounds, number)
            tight += rounds == number > 1
            if m == 2 and busy(part):
                # No rounds of any hand, all ways to part the things gone through, are fewer.
                self.assertGreaterEqual(self.fewest_rounds(m, bits, part), number)
        self.assertGreater(tight, 50)

    def fewest_rounds(self, m, bits, part):
        wires = busy(part)
        best = len(wires)
        for choice in range(len(wires) ** len(wires)):
            kinds = [choice // len(wires) ** at % len(wires) for at in range(len(wires))]
            if len(set(kinds)) < best:
                thing = tuple(tuple(w for w, k in zip(wires, kinds) if k == kind) for kind in sorted(set(kinds)))
                if rounds_hold(m, bits, part, thing):
                    best = len(thing)
        return best


if __name__ == "__main__":
    unittest.main()
