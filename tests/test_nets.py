"""Points 4 and 5: what nets, settings, part orders and orders are."""

import unittest

from switchrows.nets import is_net, is_order, is_part, is_setting
from tests.asking import AskingTest
from tests.samples import EMPTY_STAGES, MIXED, ONE_SWITCH, ONE_WIRE, OTHER_THINGS, SMALL_NETS, THREE
from tests.samples import all_orders, all_settings, nested

HUGE = 10**40 - 1
MANY_WIRES = (64, (tuple((a, a + 1) for a in range(0, 64, 2)), tuple((a, a + 32) for a in range(32))))
MANY_STAGES = (3, (((0, 1),), ((1, 2),)) * 30)


class NetTest(AskingTest):
    def good(self, thing):
        self.ask(True, is_net, thing)

    def bad(self, thing):
        self.ask(False, is_net, thing)

    def test_small_nets(self):
        for net in SMALL_NETS:
            self.good(net)

    def test_one_wire(self):
        self.good((1, ()))
        self.good((1, ((),)))
        self.good((1, ((), (), ())))

    def test_no_stages(self):
        self.good((7, ()))

    def test_stages_of_no_switches(self):
        self.good((2, ((), ((0, 1),), ())))

    def test_switches_need_not_be_neighbours(self):
        self.good((6, (((0, 5), (1, 3), (2, 4)),)))

    def test_second_wires_need_not_rise(self):
        self.good((4, (((0, 3), (1, 2)),)))

    def test_wires_may_be_left_out(self):
        self.good((9, (((3, 8),), ((0, 1), (4, 7)))))

    def test_a_wire_may_be_in_switches_of_several_stages(self):
        self.good(THREE)

    def test_beyond_the_bounds(self):
        self.good(MANY_WIRES)
        self.good(MANY_STAGES)
        self.good((HUGE, ()))
        self.good((HUGE, (((0, HUGE - 1),), ((5, 10**39),))))

    def test_many_is_a_whole_number_from_one_on(self):
        for many in (0, -1, -HUGE, True, False, None, "1", "", (1,), (), [1], {1: 1}):
            self.bad((many, ()))
        self.bad((True, ((),)))

    def test_the_net_is_a_pair(self):
        self.bad(())
        self.bad((1,))
        self.bad(((),))
        self.bad((1, (), ()))
        self.bad(((), 1))
        self.bad((2, ((0, 1),), ()))

    def test_the_net_is_a_tuple(self):
        self.bad([1, ()])
        self.bad([2, (((0, 1),),)])
        self.bad({1: ()})
        self.bad({2: 1, 1: 2})

    def test_stages_are_a_tuple(self):
        for stages in ([], [()], [((0, 1),)], {}, {(): ()}, None, 0, 1, "", "0-1", True):
            self.bad((2, stages))

    def test_a_stage_is_a_tuple(self):
        for stage in ([], [(0, 1)], {}, {(0, 1): 1}, None, 0, 1, "", "0-1", False):
            self.bad((2, (stage,)))
            self.bad((2, ((), stage)))

    def test_a_switch_is_a_pair(self):
        for switch in ((), (0,), (1,), (0, 1, 2), (0, 1, 1), ((0, 1),)):
            self.bad((3, ((switch,),)))

    def test_a_switch_is_a_tuple(self):
        for switch in ([0, 1], {0: 1, 1: 2}, None, 0, 1, "01", "0-1", True):
            self.bad((3, ((switch,),)))

    def test_the_wires_of_a_switch_are_unlike(self):
        self.bad((2, (((0, 0),),)))
        self.bad((2, (((1, 1),),)))

    def test_the_lesser_wire_is_first(self):
        self.bad((2, (((1, 0),),)))
        self.bad((4, (((0, 1), (3, 2)),)))

    def test_the_wires_are_there(self):
        self.bad((2, (((0, 2),),)))
        self.bad((2, (((2, 3),),)))
        self.bad((2, (((-1, 0),),)))
        self.bad((2, (((-2, -1),),)))
        self.bad((2, (((-1, 1),),)))
        self.bad((1, (((0, 1),),)))
        self.bad((2, ((), ((0, 1),), ((0, 2),))))
        self.bad((10**39, (((0, 10**39),),)))

    def test_the_wires_are_whole_numbers(self):
        for pair in ((False, 1), (0, True), (False, True), (None, 1), (0, None), ("0", "1"), ((0,), (1,))):
            self.bad((2, ((pair,),)))
        for pair in (([], 1), (0, []), ({}, {}), ((), ()), ("0", 1), (0, "1")):
            self.bad((2, ((pair,),)))

    def test_switches_rise(self):
        self.bad((4, (((2, 3), (0, 1)),)))
        self.bad((6, (((0, 1), (4, 5), (2, 3)),)))
        self.bad((4, (((1, 2), (0, 3)),)))

    def test_no_wire_is_in_two_switches_of_a_stage(self):
        self.bad((2, (((0, 1), (0, 1)),)))
        self.bad((3, (((0, 1), (0, 2)),)))
        self.bad((3, (((0, 1), (1, 2)),)))
        self.bad((3, (((0, 2), (1, 2)),)))
        self.bad((6, (((0, 5), (1, 2), (3, 4), (4, 5)),)))
        self.bad((6, (((0, 5), (1, 2), (3, 5)),)))

    def test_a_fault_in_the_last_stage(self):
        self.bad((3, (((0, 1),),) * 25 + (((0, 1), (1, 2)),)))

    def test_other_things(self):
        for thing in OTHER_THINGS:
            self.bad(thing)
        for depth in range(1, 31):
            self.bad(nested(depth))
        self.bad((nested(29), ()))
        self.bad((2, nested(29)))
        self.bad((2, (((0, nested(26)),),)))


class SettingTest(AskingTest):
    def good(self, net, thing):
        self.ask(True, is_setting, net, thing)

    def bad(self, net, thing):
        self.ask(False, is_setting, net, thing)

    def test_all_settings_of_small_nets(self):
        for net in SMALL_NETS:
            for setting in all_settings(net):
                self.good(net, setting)

    def test_of_no_stages_and_of_no_switches(self):
        self.good(ONE_WIRE, ())
        self.good(EMPTY_STAGES, ((), ()))
        self.bad(EMPTY_STAGES, ((), (0,)))
        self.bad(ONE_WIRE, ((),))

    def test_beyond_the_bounds(self):
        self.good(MANY_WIRES, ((0, 1) * 16, (1,) * 32))
        self.good(MANY_STAGES, ((0,), (1,)) * 30)
        self.bad(MANY_WIRES, ((0, 1) * 16, (1,) * 31))
        self.bad(MANY_STAGES, ((0,), (1,)) * 29)

    def test_a_stage_too_many_or_too_few(self):
        self.bad(ONE_SWITCH, ())
        self.bad(ONE_SWITCH, ((0,), ()))
        self.bad(ONE_SWITCH, ((), (0,)))
        self.bad(ONE_SWITCH, ((0,), (0,)))
        self.bad(THREE, ((0,), (1,)))
        self.bad(MIXED, ((0, 0), (0, 0), (0,)))

    def test_a_way_too_many_or_too_few(self):
        self.bad(ONE_SWITCH, ((),))
        self.bad(ONE_SWITCH, ((0, 0),))
        self.bad(MIXED, ((0,), (), (0, 0), (0,)))
        self.bad(MIXED, ((0, 0), (0,), (0, 0), (0,)))
        self.bad(MIXED, ((0, 0), (), (0, 0), (0, 1)))
        self.bad(MIXED, ((0, 0), (), (0, 0, 0), ()))

    def test_ways_are_the_whole_numbers_0_and_1(self):
        for way in (True, False, 2, -1, 10**39, None, "0", "1", "x", "", (), (0,), [], [0], {}, {0: 0}):
            self.bad(ONE_SWITCH, ((way,),))
            self.bad(MIXED, ((0, way), (), (0, 0), (1,)))
            self.bad(MIXED, ((0, 1), (), (0, 0), (way,)))

    def test_tuples_at_each_depth(self):
        self.bad(ONE_SWITCH, [(0,)])
        self.bad(ONE_SWITCH, ([0],))
        self.bad(ONE_SWITCH, ("=",))
        self.bad(ONE_SWITCH, ({0: 0},))
        self.bad(ONE_SWITCH, {0: (0,)})
        self.bad(ONE_SWITCH, (0,))
        self.bad(ONE_WIRE, [])
        self.bad(ONE_WIRE, "")
        self.bad(ONE_WIRE, {})
        self.bad(ONE_WIRE, None)
        self.bad(EMPTY_STAGES, ([], []))
        self.bad(EMPTY_STAGES, ("", ""))
        self.bad(EMPTY_STAGES, ({}, ()))
        self.bad(EMPTY_STAGES, "--")
        self.bad(EMPTY_STAGES, (None, None))

    def test_other_things(self):
        for thing in OTHER_THINGS:
            self.bad(ONE_SWITCH, thing)
            self.bad(MIXED, thing)


class PartTest(AskingTest):
    def told(self, many, thing, part, order):
        self.ask(part, is_part, many, thing)
        self.ask(order, is_order, many, thing)

    def test_orders(self):
        for many in range(1, 6):
            for order in all_orders(many):
                self.told(many, order, True, True)

    def test_some_idle(self):
        for part in ((None, 0), (1, None), (0, None)):
            self.told(2, part, True, False)
        self.told(5, (4, None, 0, None, 2), True, False)
        self.told(5, (None, None, None, None, 4), True, False)

    def test_all_idle(self):
        for many in range(1, 40):
            self.told(many, (None,) * many, True, False)

    def test_many_wires(self):
        self.told(32, tuple(range(32))[::-1], True, True)
        self.told(500, tuple(range(500))[::-1], True, True)
        self.told(500, (None,) + tuple(range(499)), True, False)

    def test_a_wire_twice(self):
        for thing in ((0, 0, 1), (2, 1, 2), (None, 1, 1), (0, None, 0), (0, 0, 0)):
            self.told(3, thing, False, False)

    def test_a_wire_that_there_is_not(self):
        for wire in (3, 4, -1, -3, 10**39, -(10**39)):
            self.told(3, (0, 1, wire), False, False)
            self.told(3, (wire, None, None), False, False)

    def test_truths_are_no_wires(self):
        self.told(2, (True, 0), False, False)
        self.told(2, (1, False), False, False)
        self.told(2, (False, True), False, False)
        self.told(2, (None, True), False, False)
        self.told(1, (False,), False, False)

    def test_a_part_more_or_fewer(self):
        self.told(3, (0, 1), False, False)
        self.told(3, (0, 1, 2, None), False, False)
        self.told(3, (0, 1, 2, 3), False, False)
        self.told(3, (None, None), False, False)
        self.told(1, (), False, False)
        self.told(1, (0, None), False, False)

    def test_parts_of_other_kinds(self):
        for thing in ("0", "", ".", (), (0,), (None,), [], [0], {}, {0: 0}, nested(29)):
            self.told(2, (thing, 1), False, False)
            self.told(2, (0, thing), False, False)
            self.told(2, (thing, None), False, False)

    def test_only_tuples(self):
        for thing in ([0, 1], [None, None], {0: 0, 1: 1}, {None: 0, 1: 1}, "01", "0 1", 2, None, True):
            self.told(2, thing, False, False)

    def test_other_things(self):
        for thing in OTHER_THINGS:
            self.told(2, thing, False, False)


if __name__ == "__main__":
    unittest.main()
