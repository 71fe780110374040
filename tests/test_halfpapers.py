"""Point 18, and 3 of it: papers of halves, and their settings."""

import unittest
from itertools import product

from switchrows.halfpapers import half_paper, half_paper_holds, setting_by
from switchrows.nets import is_setting
from switchrows.walking import order_led
from switchrows.wholes import whole
from tests.asking import AskingTest
from tests.byhalves import chance_paper, every_sides, slow_halves, slow_paper_holds, slow_setting_by
from tests.samples import OTHER_THINGS, all_orders, all_settings, changed, sample_orders

ONE = ("one",)
OWN = (0, 1, 2, 3)
OWN_PAPER = ("halves", (0, 1, 1, 0), ONE, ONE)


def orders_asked():
    """For each m from 1 to 5, orders of 2 ** m wires."""
    return {1: all_orders(2), 2: all_orders(4), 3: sample_orders(8, 30), 4: sample_orders(16, 10),
            5: sample_orders(32, 10)}


def every_paper(order):
    """All papers of halves of an order of few wires."""
    if len(order) == 2:
        return [ONE]
    papers = []
    for sides in every_sides(order):
        even, odd = slow_halves(order, sides)
        papers += [("halves", sides, *pair) for pair in product(every_paper(even), every_paper(odd))]
    return papers


class PaperTest(AskingTest):
    def led(self, m, order, paper):
        self.ask(True, half_paper_holds, order, paper)
        setting = self.told(setting_by, order, paper)
        self.assertTrue(is_setting(whole(m), setting))
        self.assertEqual(order_led(whole(m), setting), order)
        self.assertEqual(repr(setting), repr(slow_setting_by(order, paper)))

    def test_written_out(self):
        self.led(1, (0, 1), ONE)
        self.led(1, (1, 0), ONE)
        self.led(2, OWN, OWN_PAPER)
        self.assertEqual(setting_by((1, 0), ONE), ((1,),))
        self.assertEqual(setting_by(OWN, OWN_PAPER), ((0, 1), (0, 0), (0, 1)))
        self.assertEqual(setting_by(OWN, ("halves", (1, 0, 0, 1), ONE, ONE)), ((1, 0), (0, 0), (1, 0)))

    def test_told_papers(self):
        for m, orders in orders_asked().items():
            for order in orders:
                paper = self.told(half_paper, order)
                self.assertTrue(slow_paper_holds(order, paper))
                self.led(m, order, paper)

    def test_papers_by_other_sides(self):
        for m, orders in orders_asked().items():
            for order in orders:
                for seed in range(4):
                    self.led(m, order, chance_paper(order, seed))

    def test_all_papers_of_small_orders(self):
        # By each setting that leads an order there goes just one paper.
        for m in (1, 2):
            for order in all_orders(2**m):
                papers = every_paper(order)
                led = [setting for setting in all_settings(whole(m)) if order_led(whole(m), setting) == order]
                self.assertEqual(sorted(setting_by(order, paper) for paper in papers), led)
                for paper in papers:
                    self.led(m, order, paper)

    def test_one_change_at_each_depth(self):
        for m, orders in orders_asked().items():
            for order in orders[:6] + orders[-1:]:
                for thing in changed(chance_paper(order, m)):
                    self.ask(False, half_paper_holds, order, thing)

    def test_papers_of_another_order(self):
        for order in all_orders(4):
            for other in all_orders(4):
                paper = half_paper(other)
                self.ask(slow_paper_holds(order, paper), half_paper_holds, order, paper)
        orders = sample_orders(8, 20)
        for order in orders:
            for other in orders:
                paper = chance_paper(other, 1)
                self.ask(slow_paper_holds(order, paper), half_paper_holds, order, paper)

    def test_a_half_by_the_other_halfs_paper(self):
        order = (0, 2, 1, 3, 4, 5, 6, 7)
        head, sides, even, odd = half_paper(order)
        self.ask(True, half_paper_holds, order, (head, sides, even, odd))
        for thing in ((head, sides, odd, even), (head, sides, even, even), (head, sides, odd, odd)):
            self.ask(slow_paper_holds(order, thing), half_paper_holds, order, thing)

    def test_papers_of_more_or_fewer_wires(self):
        for m in range(1, 6):
            for other in range(1, 6):
                paper = half_paper(tuple(range(2**other)))
                self.ask(m == other, half_paper_holds, tuple(range(2**m)), paper)

    def test_other_forms(self):
        for thing in (
            ("halves", (0, 1), ONE, ONE),
            ("one", ()),
            ("one", (0, 1)),
            ("ones",),
            ("ONE",),
            "one",
            ["one"],
            {"one": ()},
            (ONE,),
        ):
            self.ask(False, half_paper_holds, (0, 1), thing)
            self.ask(False, half_paper_holds, OWN, thing)
        for thing in (
            ONE,
            ("halves",),
            ("halves", (0, 1, 1, 0)),
            ("halves", (0, 1, 1, 0), ONE),
            ("halves", (0, 1, 1, 0), (ONE, ONE)),
            ("halves", (0, 1, 1, 0), ONE, ONE, ONE),
            ("half", (0, 1, 1, 0), ONE, ONE),
            ((0, 1, 1, 0), ONE, ONE),
            ("halves", ONE, ONE, (0, 1, 1, 0)),
            ("halves", (False, True, True, False), ONE, ONE),
            ("halves", (0, 1, True, 0), ONE, ONE),
            ("halves", [0, 1, 1, 0], ONE, ONE),
            ("halves", "0110", ONE, ONE),
            ("halves", None, ONE, ONE),
            ("halves", (0, 0, 1, 1), ONE, ONE),
            ("halves", (0, 1, 1, 0), ONE, ["one"]),
            ("halves", (0, 1, 1, 0), ONE, None),
            ["halves", (0, 1, 1, 0), ONE, ONE],
        ):
            self.ask(False, half_paper_holds, OWN, thing)

    def test_of_anything(self):
        for order in ((0, 1), OWN, tuple(range(32))):
            for thing in OTHER_THINGS:
                self.ask(False, half_paper_holds, order, thing)


if __name__ == "__main__":
    unittest.main()
