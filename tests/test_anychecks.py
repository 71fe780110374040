"""Points 31 and 32, and 2 and 3 of them: papers that no setting of any net leads an order, and what is told of all."""

import unittest
from itertools import combinations, product
from random import Random

from switchrows.anychecks import all_holds, any_none_holds
from switchrows.anynets import all_or_lacks, led_any
from switchrows.bitnets import bit_net
from switchrows.joining import about, behind, beside
from switchrows.sorters import merger, sorter
from switchrows.walking import leads
from switchrows.wholes import many_switches, spared, whole
from tests.asking import AskingTest
from tests.byany import any_kinds, as_told, chance_any, led_orders, settings_that_agree, slow_any_holds
from tests.samples import EMPTY_STAGES, MIXED, ONE_SWITCH, ONE_WIRE, OTHER_THINGS, SMALL_NETS, THREE
from tests.samples import all_but, all_orders, all_settings, chance_stuck, changed, shuffled_orders, switches_of

TWO = (3, (((0, 1),), ((1, 2),)))
# The things of 0 and 1 both have to go by wire 1 behind the first stage, on to 2 and 3.
NARROW = (4, (((0, 1),), ((1, 2),), ((2, 3),)))
NETS = (ONE_SWITCH, THREE, TWO, NARROW, MIXED, EMPTY_STAGES, spared(2), merger(2), sorter(2), about(TWO))


def lacking(how_many, seed, nets=NETS):
    """Nets with stuck switches and an order that no setting that agrees leads."""
    chance = Random(seed)
    found = []
    while len(found) < how_many:
        net = chance.choice(nets)
        stuck = chance_stuck(net, chance.choice((0, 0, 20, 50, 100)), chance)
        order = chance.choice(all_orders(net[0]))
        if order not in led_orders(net, as_told(stuck)):
            found.append((net, stuck, order))
    return found


class AnyNoneTest(AskingTest):
    def holds(self, expected, net, stuck, order, thing):
        self.ask(expected, any_none_holds, net, stuck, order, thing)

    def slowly(self, net, stuck, order, thing):
        """Let by just where the slow reckoning lets it by."""
        expected = slow_any_holds(net, as_told(stuck), order, thing)
        self.assertIs(any_none_holds(net, stuck, order, thing), expected, (net, stuck, order, thing))
        return expected

    def test_lost_written_out(self):
        order = (1, 2, 0)
        self.holds(True, TWO, (), order, ("lost", 2))
        for w in (0, 1, 3, -1, True, False, None, "2", (2,), [2], 10**39):
            self.holds(False, TWO, (), order, ("lost", w))
        for thing in (("lost",), ("lost", 2, 2), ["lost", 2], ("Lost", 2), (2, "lost"), "lost", ("lost", 2, ())):
            self.holds(False, TWO, (), order, thing)
        # At a told switch a thing goes as that is.
        self.holds(True, ONE_SWITCH, ((0, 0, 0),), (1, 0), ("lost", 0))
        self.holds(True, ONE_SWITCH, ((0, 0, 0),), (1, 0), ("lost", 1))
        self.holds(False, ONE_SWITCH, ((0, 0, 0),), (1, 0), ("lost", True))
        self.holds(False, ONE_SWITCH, ((0, 0, 0),), (1, 0), ("lost", False))
        self.holds(False, ONE_SWITCH, ((0, 0, 1),), (1, 0), ("lost", 0))
        self.holds(False, ONE_SWITCH, (), (1, 0), ("lost", 0))
        self.holds(True, ONE_SWITCH, ((0, 0, 1),), (0, 1), ("lost", 0))

    def test_crowd_written_out(self):
        order = (2, 3, 0, 1)
        self.holds(False, NARROW, (), order, ("lost", 0))
        self.holds(True, NARROW, (), order, ("crowd", 1, (0, 1)))
        for wires in ((1, 0), (0, 0), (0, 1, 1), (0,), (1,), (), [0, 1], (False, 1), (0, True), "01", None, (0, 4), (-1, 0),
                      ((0, 1),), ("0", "1"), {0: 0, 1: 1}, 0):
            self.holds(False, NARROW, (), order, ("crowd", 1, wires))
        for stage in (-1, 4, 5, 10**39, True, False, None, "1", (1,), [1]):
            self.holds(False, NARROW, (), order, ("crowd", stage, (0, 1)))
        for thing in (("crowd", 1), ("crowd", 1, (0, 1), ()), ("crowd", (0, 1), 1), ["crowd", 1, (0, 1)], ("crowd", 1, 0, 1)):
            self.holds(False, NARROW, (), order, thing)

    def test_a_crowd_of_three(self):
        # Three things that want to go over to the other side, by two wires.
        net = (6, (((2, 3),), ((0, 1), (4, 5)), ((1, 2), (3, 4)), ((2, 3),), ((1, 2), (3, 4)), ((0, 1), (4, 5))))
        found = 0
        for order in ((3, 4, 5, 0, 1, 2), (5, 4, 3, 2, 1, 0), (4, 3, 5, 1, 2, 0)):
            for stage in range(7):
                for size in (2, 3, 4):
                    for wires in combinations(range(6), size):
                        found += self.slowly(net, (), order, ("crowd", stage, wires))
        self.assertGreater(found, 10)

    def test_crowds_at_the_first_and_the_last_place(self):
        # Behind no stage, and behind all of them, a thing that isn't lost has just one wire: two that are lost have none.
        for net in (TWO, EMPTY_STAGES, (3, ())):
            for order in all_orders(3):
                for stage in (0, len(net[1])):
                    for wires in ((0, 1), (0, 2), (1, 2), (0, 1, 2)):
                        lost = [w for w in wires if slow_any_holds(net, {}, order, ("lost", w))]
                        self.holds(bool(lost), net, (), order, ("crowd", stage, wires))

    def test_case_written_out(self):
        order = (2, 1, 0)
        self.holds(True, TWO, (), order, ("case", 0, 0, ("lost", 0), ("lost", 2)))
        self.holds(True, TWO, (), order, ("case", 0, 0, ("lost", 0), ("case", 1, 0, ("lost", 0), ("lost", 1))))
        for stage, number in ((2, 0), (-1, 0), (0, 1), (0, -1), (False, 0), (0, False), (None, 0), ("0", 0), (10**39, 0)):
            self.holds(False, TWO, (), order, ("case", stage, number, ("lost", 0), ("lost", 2)))
        for thing in (("case", 0, 0, ("lost", 0)), ("case", 0, 0), ("case", 0, 0, ("lost", 0), ("lost", 2), ("lost", 2)),
                      ["case", 0, 0, ("lost", 0), ("lost", 2)], ("case", (0, 0), ("lost", 0), ("lost", 2))):
            self.holds(False, TWO, (), order, thing)

    def test_a_told_switch_is_no_case(self):
        for way in (0, 1):
            stuck = ((0, 0, way),)
            order = (2, 1, 0)
            self.holds(True, TWO, stuck, order, ("lost", 2))
            self.holds(False, TWO, stuck, order, ("case", 0, 0, ("lost", 2), ("lost", 2)))
            self.holds(True, TWO, stuck, order, ("case", 1, 0, ("lost", 2), ("lost", 2)))
            twice = ("case", 1, 0, ("lost", 2), ("case", 1, 0, ("lost", 2), ("lost", 2)))
            self.holds(False, TWO, stuck, order, twice)
        # Told by a case around it, not by what is stuck, and the other way round in another one.
        under = ("case", 1, 0, ("lost", 2), ("lost", 2))
        self.holds(True, TWO, (), (2, 1, 0), ("case", 0, 0, under, under))
        self.holds(False, TWO, (), (2, 1, 0), ("case", 1, 0, under, under))

    def test_the_papers_are_of_straight_and_of_crossed(self):
        # With the first switch straight the thing of 0 can't come to 2; with it crossed it can.
        order = (2, 1, 0)
        net = (3, (((0, 1),), ((1, 2),), ((0, 1),)))
        stuck = ((2, 0, 0),)
        right = [(one, other) for one, other in product(range(3), repeat=2)
                 if slow_any_holds(net, as_told(stuck), order, ("case", 0, 0, ("lost", one), ("lost", other)))]
        self.assertTrue(any((other, one) not in right for one, other in right))
        for one, other in product(range(3), repeat=2):
            self.holds((one, other) in right, net, stuck, order, ("case", 0, 0, ("lost", one), ("lost", other)))

    def test_told_papers_and_papers_of_other_hands(self):
        chance = Random(1)
        kinds = set()
        for net, stuck, order in lacking(150, 1):
            self.holds(True, net, stuck, order, led_any(net, stuck, order)[1])
            for allowed in (("lost", "crowd", "case"), ("lost", "case"), ("crowd", "case")):
                paper = chance_any(net, as_told(stuck), order, chance, allowed)
                self.assertTrue(slow_any_holds(net, as_told(stuck), order, paper))
                self.holds(True, net, stuck, order, paper)
                kinds |= any_kinds(paper)
        self.assertEqual(kinds, {"lost", "crowd", "case"})

    def test_every_lost_and_every_crowd(self):
        told = {True: 0, False: 0}
        for net, stuck, order in lacking(120, 2):
            many, stages = net
            things = [("lost", w) for w in range(many)]
            for stage in range(-1, len(stages) + 2):
                for size in range(many + 1):
                    things += [("crowd", stage, wires) for wires in combinations(range(many), size)]
            for thing in things:
                told[self.slowly(net, stuck, order, thing)] += 1
        self.assertGreater(min(told.values()), 300)

    def test_every_case_of_two_lost(self):
        told = {True: 0, False: 0}
        for net, stuck, order in lacking(60, 3):
            for stage, number in product(range(-1, len(net[1]) + 1), range(-1, 3)):
                for one, other in product(range(net[0]), repeat=2):
                    thing = ("case", stage, number, ("lost", one), ("lost", other))
                    told[self.slowly(net, stuck, order, thing)] += 1
        self.assertGreater(min(told.values()), 100)

    def test_one_change_at_each_depth(self):
        chance = Random(4)
        for net, stuck, order in lacking(60, 4):
            paper = chance_any(net, as_told(stuck), order, chance)
            things = list(changed(paper))
            for thing in chance.sample(things, min(len(things), 200)):
                self.slowly(net, stuck, order, thing)

    def test_papers_of_other_orders_and_other_stuck_switches(self):
        chance = Random(5)
        refused = 0
        for net in (TWO, NARROW, MIXED, merger(2)):
            cases = lacking(15, 5, (net,))
            for _, stuck, order in cases:
                paper = chance_any(net, as_told(stuck), order, chance)
                for _, other_stuck, other in cases:
                    for some, one in ((stuck, other), (other_stuck, order), ((), order), (other_stuck, other)):
                        refused += not self.slowly(net, some, one, paper)
        self.assertGreater(refused, 300)

    def test_no_paper_is_let_by_where_an_order_is_led(self):
        chance = Random(6)
        for net in SMALL_NETS + (TWO, NARROW, whole(2), merger(2)):
            pool = [("lost", w) for w in range(net[0])]
            pool += [("crowd", stage, wires) for stage in range(len(net[1]) + 1)
                     for size in range(2, net[0] + 1) for wires in combinations(range(net[0]), size)]
            leaves = list(pool)
            for place in switches_of(net):
                pool += [("case", *place, chance.choice(leaves), chance.choice(leaves)) for _ in range(10)]
            if led_orders(net, {}) != set(all_orders(net[0])):
                pool += [chance_any(net, {}, case[2], chance) for case in lacking(10, 6, (net,)) if not case[1]]
            for _ in range(10):
                stuck = chance_stuck(net, 30, chance)
                led = sorted(led_orders(net, as_told(stuck)))
                order = chance.choice(led)
                for thing in pool:
                    self.assertIs(any_none_holds(net, stuck, order, thing), False)

    def test_more_wires(self):
        chance = Random(7)
        for net in (whole(3), bit_net(4, (0, 1, 2)), beside(whole(2), NARROW), whole(4), whole(5), sorter(4)):
            for free in (0, 3, 10):
                stuck = all_but(net, min(free, many_switches(net)), chance)
                for order in shuffled_orders(net[0], 4):
                    kind, thing = led_any(net, stuck, order)
                    if kind == "none":
                        self.holds(True, net, stuck, order, thing)
                        self.holds(False, net, stuck, order, thing[:-1])
                    for w in range(net[0]):
                        self.slowly(net, stuck, order, ("lost", w))
                    for _ in range(5):
                        wires = tuple(sorted(chance.sample(range(net[0]), chance.randrange(2, 6))))
                        stage = chance.randrange(len(net[1]) + 1)
                        self.slowly(net, stuck, order, ("crowd", stage, wires))

    def test_nets_with_more_than_ten_free_switches(self):
        # No paper is refused for the number of switches: here three things would go by two wires of a plain bit net.
        net = bit_net(4, (0, 1, 2, 3))
        order = (0, 4, 8, 12) + (1, 2, 3, 5, 6, 7, 9, 10, 11, 13, 14, 15)
        self.assertTrue(slow_any_holds(net, {}, order, ("crowd", 2, (0, 1, 2, 3))))
        self.holds(True, net, (), order, ("crowd", 2, (0, 1, 2, 3)))
        self.holds(True, net, (), order, ("crowd", 1, (0, 1)))
        self.holds(False, net, (), order, ("crowd", 0, (0, 1)))
        self.holds(False, net, (), order, ("crowd", 4, (0, 1)))

    def test_a_paper_of_many_parts(self):
        net = (4, (((0, 1), (2, 3)),) * 5)
        kind, paper = led_any(net, (), (2, 1, 0, 3))
        self.assertEqual(kind, "none")
        self.holds(True, net, (), (2, 1, 0, 3), paper)
        deep = ("lost", 0)
        for stage in range(5):
            for number in (0, 1):
                deep = ("case", stage, number, deep, deep)
        self.holds(True, net, (), (2, 1, 0, 3), deep)
        self.holds(False, net, (), (1, 0, 2, 3), deep)

    def test_of_anything(self):
        for net, stuck, order in lacking(12, 8):
            for thing in OTHER_THINGS:
                self.holds(False, net, stuck, order, thing)
                for whole_thing in (("lost", thing), ("crowd", thing, (0, 1)), ("crowd", 0, thing), (thing, 0),
                                    ("case", thing, 0, ("lost", 0), ("lost", 0)), ("case", 0, thing, ("lost", 0), ("lost", 0)),
                                    ("case", 0, 0, thing, ("lost", 0)), ("case", 0, 0, ("lost", 0), thing)):
                    self.slowly(net, stuck, order, whole_thing)


class AllHoldsTest(AskingTest):
    def slow_all(self, net, thing):
        if type(thing) is not tuple or not thing or type(thing[0]) is not str:
            return False
        orders = all_orders(net[0])
        if thing[0] == "all":
            return (
                len(thing) == 2
                and type(thing[1]) is tuple
                and len(thing[1]) == len(orders)
                and all(repr(s) in self.settings(net) and leads(net, s, o) for s, o in zip(thing[1], orders))
            )
        if thing[0] != "lacks" or len(thing) != 3:
            return False
        is_one = type(thing[1]) is tuple and repr(thing[1]) in [repr(order) for order in orders]
        return is_one and slow_any_holds(net, {}, thing[1], thing[2])

    def settings(self, net):
        return {repr(setting) for setting in all_settings(net)}

    def holds(self, expected, net, thing):
        self.ask(expected, all_holds, net, thing)

    def test_told_of_all(self):
        for net in SMALL_NETS + NETS + (whole(2), (2, ()), (4, ()), (2, (((0, 1),),) * 10)):
            self.holds(True, net, all_or_lacks(net))

    def test_written_out(self):
        self.holds(True, ONE_WIRE, ("all", ((),)))
        for thing in (("all", ()), ("all", ((), ())), ("all", [()]), ("all", ((0,),)), ("all",), ("all", ((),), ()), ["all", ((),)]):
            self.holds(False, ONE_WIRE, thing)
        self.holds(True, ONE_SWITCH, ("all", (((0,),), ((1,),))))
        for settings in ((((1,),), ((0,),)), (((0,),),), (((0,),), ((0,),)), (((0,),), ((True,),)), (((False,),), ((1,),)),
                         (((0,),), ((1,),), ((1,),)), ([(0,)], ((1,),)), (((0,),), [(1,)]), (((0,),), ((1, 0),)), (((0,),), ())):
            self.holds(False, ONE_SWITCH, ("all", settings))
        self.holds(False, ONE_SWITCH, ("lacks", (1, 0), ("lost", 0)))

    def test_lacks_any_order_that_is_not_led(self):
        for net in (TWO, NARROW, MIXED, merger(2), EMPTY_STAGES):
            led = led_orders(net, {})
            chance = Random(1)
            for order in all_orders(net[0]):
                if order in led:
                    for w in range(net[0]):
                        self.holds(False, net, ("lacks", order, ("lost", w)))
                else:
                    paper = chance_any(net, {}, order, chance)
                    self.holds(True, net, ("lacks", order, paper))
                    self.holds(False, net, ("lacks", list(order), paper))
                    self.holds(False, net, ("lacks", order + (net[0],), paper))
                    self.holds(False, net, ("lacks", order[:-1], paper))
                    self.holds(False, net, ("lacks", order[:-1] + (None,), paper))
                    self.holds(False, net, ("lacks", order[:-1] + order[:1], paper))
                    self.holds(False, net, ("lacks", tuple(bool(p) if p < 2 else p for p in order), paper))
                    self.holds(False, net, ("lacks", order, paper, ()))
                    self.holds(False, net, ("lacks", order))
                    self.holds(False, net, ("all", order, paper))

    def test_settings_of_other_hands(self):
        chance = Random(2)
        for net in (ONE_SWITCH, THREE, whole(2), spared(2), (2, (((0, 1),),) * 4)):
            by_order = {order: [] for order in all_orders(net[0])}
            for setting in settings_that_agree(net, {}):
                for order in by_order:
                    if leads(net, setting, order):
                        by_order[order].append(setting)
            for _ in range(5):
                settings = tuple(chance.choice(by_order[order]) for order in all_orders(net[0]))
                self.holds(True, net, ("all", settings))
                self.holds(False, net, ("all", settings[::-1]))
                self.holds(False, net, ("all", settings[:-1]))
                self.holds(False, net, ("all", settings + settings[-1:]))
                self.holds(False, net, ("all", settings[1:] + settings[:1]))

    def test_one_change(self):
        chance = Random(3)
        for net in (ONE_WIRE, ONE_SWITCH, TWO, THREE, NARROW, merger(2), whole(2)):
            told = all_or_lacks(net)
            things = list(changed(told))
            for thing in chance.sample(things, min(len(things), 200)):
                self.ask(self.slow_all(net, thing), all_holds, net, thing)

    def test_more_than_ten_switches(self):
        net = behind(behind(whole(2), whole(2)), whole(2))
        self.assertGreater(many_switches(net), 10)
        straight = tuple((0,) * len(stage) for stage in net[1][3:])
        settings = tuple(setting + straight for setting in all_or_lacks(whole(2))[1])
        self.holds(True, net, ("all", settings))
        self.holds(False, net, ("all", settings[1:] + settings[:1]))
        net = (4, (((0, 1), (2, 3)),) * 20)
        self.holds(True, net, ("lacks", (2, 1, 0, 3), ("lost", 0)))
        self.holds(True, net, ("lacks", (2, 1, 0, 3), ("lost", 2)))
        self.holds(False, net, ("lacks", (2, 1, 0, 3), ("lost", 1)))
        self.holds(True, net, ("lacks", (2, 1, 0, 3), ("case", 19, 1, ("lost", 0), ("crowd", 7, (0, 2)))))
        great = (4, net[1] * 30)
        self.holds(True, great, ("lacks", (0, 2, 1, 3), ("lost", 1)))

    def test_of_anything(self):
        for net in (ONE_WIRE, ONE_SWITCH, TWO, whole(2), (4, ())):
            for thing in OTHER_THINGS:
                self.holds(False, net, thing)
                self.holds(self.slow_all(net, ("all", thing)), net, ("all", thing))
                self.holds(False, net, ("lacks", thing, ("lost", 0)))
                self.holds(False, net, ("lacks", tuple(range(net[0]))[::-1], thing))
                self.holds(False, net, (thing, ()))


if __name__ == "__main__":
    unittest.main()
