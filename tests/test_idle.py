"""Points 19 and 20, and 3 of them: part orders filled and widened, their sides, halves, papers and settings."""

import unittest
from itertools import product
from random import Random

from switchrows.halfpapers import half_paper_holds, setting_by
from switchrows.idle import filled, part_halves, part_paper_holds, part_setting, part_setting_by
from switchrows.idle import part_sides_fit, widened
from switchrows.leading import setting_for
from switchrows.nets import is_order, is_part, is_setting
from switchrows.rings import halves_of, sides_fit
from switchrows.walking import leads, moved
from switchrows.wholes import whole
from tests.asking import AskingTest
from tests.byhalves import chance_paper, chance_sides, every_sides
from tests.byhalves import slow_fit, slow_halves, slow_paper_holds, slow_setting_by
from tests.samples import OTHER_THINGS, all_parts, changed, sample_orders, sample_parts, with_idle

ONE = ("one",)


def parts_asked():
    """For each m from 1 to 5, part orders of 2 ** m wires with none, some and all wires idle."""
    return {1: all_parts(2), 2: all_parts(4), 3: sample_parts(8, 30), 4: sample_parts(16, 10),
            5: sample_parts(32, 10)}


class FilledTest(AskingTest):
    def test_written_out(self):
        for part, order in (
            ((None,), (0,)),
            ((0,), (0,)),
            ((None, None), (0, 1)),
            ((None, 0), (1, 0)),
            ((1, None), (1, 0)),
            ((None, None, 0), (1, 2, 0)),
            ((3, None, 1, None), (3, 0, 1, 2)),
            ((None, 1, None, None), (0, 1, 2, 3)),
            ((2, 0, 1), (2, 0, 1)),
        ):
            self.assertEqual(repr(self.told(filled, part)), repr(order))

    def test_idle_wires_rise(self):
        for many in (1, 2, 3, 5, 8, 31, 32):
            for seed, order in enumerate(sample_orders(many, 20)):
                part = with_idle(order, seed)
                full = self.told(filled, part)
                self.assertTrue(is_order(many, full))
                self.assertEqual([p for p, q in zip(full, part) if q is not None], [q for q in part if q is not None])
                rest = [p for p, q in zip(full, part) if q is None]
                self.assertEqual(rest, sorted(rest))

    def test_an_order_stays(self):
        for order in sample_orders(8, 10):
            self.assertEqual(filled(order), order)


class WidenedTest(AskingTest):
    def test_written_out(self):
        self.assertEqual(self.told(widened, (None,)), (None, None))
        self.assertEqual(self.told(widened, (0,)), (0, None))
        self.assertEqual(self.told(widened, (1, 0)), (1, 0))
        self.assertEqual(self.told(widened, (1, 0, None)), (1, 0, None, None))
        self.assertEqual(self.told(widened, (4, 0, 1, 2, 3)), (4, 0, 1, 2, 3, None, None, None))

    def test_of_1_to_32_wires(self):
        wide = {1: 2, 2: 2, 3: 4, 4: 4}
        wide.update({many: 8 for many in range(5, 9)})
        wide.update({many: 16 for many in range(9, 17)})
        wide.update({many: 32 for many in range(17, 33)})
        for many in range(1, 33):
            for part in sample_parts(many, 3):
                told = self.told(widened, part)
                self.assertEqual(len(told), wide[many])
                self.assertEqual(told, part + (None,) * (wide[many] - many))
                self.assertTrue(is_part(wide[many], told))

    def test_then_led(self):
        for many in range(1, 33):
            for part in sample_parts(many, 2):
                wide = widened(part)
                m = len(wide).bit_length() - 1
                self.assertTrue(leads(whole(m), part_setting(wide), part))


class PartSettingTest(AskingTest):
    def test_written_out(self):
        self.assertEqual(self.told(part_setting, (None, None)), ((0,),))
        self.assertEqual(self.told(part_setting, (None, 0)), ((1,),))
        self.assertEqual(self.told(part_setting, (None, 2, None, None)), ((0, 1), (0, 1), (0, 1)))

    def test_brings_the_things_to_their_places(self):
        for m, parts in parts_asked().items():
            for part in parts:
                setting = self.told(part_setting, part)
                self.assertTrue(is_setting(whole(m), setting))
                self.assertTrue(leads(whole(m), setting, part))
                row = moved(whole(m), setting, tuple(range(2**m)))
                for wire, place in enumerate(part):
                    if place is not None:
                        self.assertEqual(row[place], wire)

    def test_that_of_the_filled_one(self):
        for parts in parts_asked().values():
            for part in parts:
                self.assertEqual(part_setting(part), setting_for(filled(part)))


class PartSidesTest(AskingTest):
    def test_written_out(self):
        part = (0, None, 1, None)
        for sides in ((0, 0, 1, 0), (0, 1, 1, 1), (1, 1, 0, 1), (1, 0, 0, 0)):
            self.ask(True, part_sides_fit, part, sides)
        for sides in ((0, 0, 0, 0), (1, 0, 1, 0), (1, 1, 1, 1)):
            self.ask(False, part_sides_fit, part, sides)
        # Mates that are not idle are unlike, and one of them alone has either side.
        self.ask(False, part_sides_fit, (0, 2, None, None), (1, 1, 0, 1))
        self.ask(True, part_sides_fit, (0, 2, None, None), (1, 0, 1, 1))
        self.ask(True, part_sides_fit, (0, None, 2, None), (1, 1, 1, 1))

    def test_all_tuples_for_all_part_orders_of_4_wires(self):
        for part in all_parts(4):
            for sides in product((0, 1), repeat=4):
                self.ask(slow_fit(part, sides), part_sides_fit, part, sides)

    def test_all_tuples_for_part_orders_of_8_wires(self):
        for part in sample_parts(8, 6):
            for sides in product((0, 1), repeat=8):
                self.assertIs(part_sides_fit(part, sides), slow_fit(part, sides))

    def test_all_idle(self):
        for many in (4, 8):
            for sides in product((0, 1), repeat=many):
                self.ask(True, part_sides_fit, (None,) * many, sides)

    def test_one_change(self):
        for part in all_parts(4)[::17] + sample_parts(8, 4) + sample_parts(16, 2) + sample_parts(32, 2):
            for thing in changed(chance_sides(part, Random(5))):
                self.ask(slow_fit(part, thing), part_sides_fit, part, thing)

    def test_idle_wires_have_numbers_too(self):
        for side in (None, True, False, 2, -1, "0", "", (), [0]):
            self.ask(False, part_sides_fit, (0, None, 2, 3), (0, side, 0, 1))
            self.ask(False, part_sides_fit, (None,) * 4, (0, side, 0, 1))

    def test_of_anything(self):
        for part in ((None,) * 4, (0, None, 2, 3), (None,) * 32):
            for thing in OTHER_THINGS:
                self.ask(False, part_sides_fit, part, thing)

    def test_of_orders_as_told_there(self):
        for order in sample_orders(8, 5):
            for sides in product((0, 1), repeat=8):
                self.assertIs(part_sides_fit(order, sides), sides_fit(order, sides))


class PartHalvesTest(AskingTest):
    def test_written_out(self):
        for part, sides, halves in (
            ((None,) * 4, (0, 1, 1, 1), ((None, None), (None, None))),
            ((0, None, 1, None), (0, 0, 1, 0), ((0, None), (None, 0))),
            ((0, None, 1, None), (1, 1, 0, 0), ((None, 0), (0, None))),
            ((None, 3, None, 0), (0, 0, 0, 0), ((1, 0), (None, None))),
            ((None, 3, None, 0), (0, 1, 1, 1), ((None, None), (1, 0))),
            ((2, 0, None, 3), (0, 1, 0, 1), ((1, None), (0, 1))),
        ):
            self.assertEqual(repr(self.told(part_halves, part, sides)), repr(halves))

    def test_by_all_sides_that_fit(self):
        for part in all_parts(4) + sample_parts(8, 3):
            for sides in every_sides(part):
                halves = self.told(part_halves, part, sides)
                self.assertEqual(halves, slow_halves(part, sides))
                for half in halves:
                    self.assertTrue(is_part(len(part) // 2, half))

    def test_of_16_and_32_wires(self):
        for part in sample_parts(16, 10) + sample_parts(32, 10):
            for seed in range(3):
                sides = chance_sides(part, Random(seed))
                self.assertEqual(self.told(part_halves, part, sides), slow_halves(part, sides))

    def test_of_orders_as_told_there(self):
        for order in sample_orders(16, 5):
            sides = chance_sides(order, Random(1))
            self.assertEqual(part_halves(order, sides), halves_of(order, sides))


class PartPaperTest(AskingTest):
    def led(self, m, part, paper):
        self.ask(True, part_paper_holds, part, paper)
        setting = self.told(part_setting_by, part, paper)
        self.assertTrue(is_setting(whole(m), setting))
        self.assertTrue(leads(whole(m), setting, part))
        self.assertEqual(repr(setting), repr(slow_setting_by(part, paper)))

    def test_written_out(self):
        for part, way in (((None, None), 0), ((0, None), 0), ((1, None), 1), ((None, 0), 1), ((None, 1), 0)):
            self.led(1, part, ONE)
            self.assertEqual(part_setting_by(part, ONE), ((way,),))
        part = (None, 3, None, 0)
        self.led(2, part, ("halves", (1, 0, 1, 0), ONE, ONE))
        self.assertEqual(part_setting_by(part, ("halves", (1, 0, 1, 0), ONE, ONE)), ((1, 1), (1, 0), (0, 1)))
        self.assertEqual(part_setting_by(part, ("halves", (0, 1, 0, 1), ONE, ONE)), ((0, 0), (0, 1), (1, 0)))

    def test_switches_without_things_that_ask_are_straight(self):
        for m in range(1, 6):
            for seed in range(3):
                part = (None,) * 2**m
                paper = chance_paper(part, seed)
                self.led(m, part, paper)
                self.assertEqual(sum(map(sum, part_setting_by(part, paper))), 0)
                # The way of one thing crosses 2m - 1 switches, and no other one is crossed.
                part = part[:-1] + (0,)
                paper = chance_paper(part, seed)
                self.led(m, part, paper)
                self.assertLessEqual(max(map(sum, part_setting_by(part, paper))), 1)

    def test_papers_by_any_sides(self):
        for m, parts in parts_asked().items():
            for seed, part in enumerate(parts):
                self.led(m, part, chance_paper(part, seed))
                self.led(m, part, chance_paper(part, seed + 1))

    def test_idle_wires_sides_either_way(self):
        part = (None, 3, 2, None)
        for one, other in product((0, 1), repeat=2):
            for side in (0, 1):
                paper = ("halves", (one, side, 1 - side, other), ONE, ONE)
                self.led(2, part, paper)
                self.assertEqual(part_setting_by(part, paper)[0], (1 - side, 1 - side))

    def test_one_change_at_each_depth(self):
        for m, parts in parts_asked().items():
            for part in parts[:3] + parts[3::60] + parts[-4:]:
                for thing in changed(chance_paper(part, m)):
                    self.ask(slow_paper_holds(part, thing), part_paper_holds, part, thing)

    def test_papers_of_another_part_order(self):
        parts = sample_parts(8, 10)
        for part in parts:
            for other in parts:
                paper = chance_paper(other, 2)
                self.ask(slow_paper_holds(part, paper), part_paper_holds, part, paper)

    def test_papers_of_more_or_fewer_wires(self):
        for m in range(1, 6):
            for other in range(1, 6):
                paper = chance_paper((None,) * 2**other, 1)
                self.ask(m == other, part_paper_holds, (None,) * 2**m, paper)

    def test_of_anything(self):
        for part in ((None, None), (1, None), (None,) * 4, (0, None, 2, 3), (None,) * 32):
            for thing in OTHER_THINGS:
                self.ask(False, part_paper_holds, part, thing)

    def test_of_orders_as_told_there(self):
        for m in range(1, 6):
            for order in sample_orders(2**m, 5):
                paper = chance_paper(order, m)
                self.ask(True, half_paper_holds, order, paper)
                self.ask(True, part_paper_holds, order, paper)
                self.assertEqual(part_setting_by(order, paper), setting_by(order, paper))


if __name__ == "__main__":
    unittest.main()
