"""Point 30, and 2 and 3 of it: papers that no setting of the whole net goes round its stuck switches."""

import unittest
from random import Random

from switchrows.around import led_around
from switchrows.aroundchecks import around_none_holds
from switchrows.wholes import whole
from tests.asking import AskingTest
from tests.byways import chance_none, half, kinds_of, sides_left, slow_led, slow_none_holds
from tests.samples import OTHER_THINGS, all_orders, all_stuck, chance_stuck, changed, mates_kept, sample_orders

OWN = (0, 1, 2, 3)
EIGHT = tuple(range(8))


def sizes():
    return {2: whole(1), 4: whole(2), 8: whole(3)}


def lacking(many, how_many, seed, least=0):
    """Orders of so many wires, each with stuck switches that bar it, but at least so many sides left."""
    chance = Random(seed)
    orders = sample_orders(many, 8) + [mates_kept(many, seed) for seed in range(5)]
    found = []
    while len(found) < how_many:
        order = chance.choice(orders)
        stuck = chance_stuck(sizes()[many], chance.choice((8, 15, 25, 40, 70)), chance)
        if not slow_led(order, stuck) and (many == 2 or len(sides_left(order, stuck)) >= least):
            found.append((order, stuck))
    return found


class NoneHoldsTest(AskingTest):
    def holds(self, expected, order, stuck, thing):
        self.ask(expected, around_none_holds, order, stuck, thing)

    def test_written_out_of_two_wires(self):
        for order in ((0, 1), (1, 0)):
            for stuck in ((), ((0, 0, order[0]),)):
                self.holds(False, order, stuck, ("one",))
            self.holds(True, order, ((0, 0, 1 - order[0]),), ("one",))
            for thing in (("barred", 0), ("ways", ()), ("one", ()), ("one", 0), ["one"], "one", ("lost", 0), (("one",),)):
                self.holds(False, order, ((0, 0, 1 - order[0]),), thing)

    def test_written_out_barred(self):
        stuck = ((0, 1, 1), (2, 1, 0))
        self.holds(True, OWN, stuck, ("barred", 2))
        # 3 is in the barred ring, but isn't its first wire; the ring of 0 has two choices that agree.
        for thing in (0, 1, 3, 4, -2, True, False, None, "2", (2,), [2], 10**39):
            self.holds(False, OWN, stuck, ("barred", thing))
        self.holds(False, OWN, stuck[:1], ("barred", 2))
        self.holds(False, OWN, stuck[1:], ("barred", 2))
        self.holds(False, OWN, ((0, 0, 1), (2, 1, 0)), ("barred", 2))
        # With the first wires 0 and 1 as truths.
        stuck = ((0, 0, 1), (2, 0, 0))
        self.holds(True, OWN, stuck, ("barred", 0))
        self.holds(False, OWN, stuck, ("barred", False))

    def test_a_ring_with_a_choice_that_agrees_is_not_barred(self):
        for way in (0, 1):
            self.holds(False, OWN, ((0, 1, way), (2, 1, way)), ("barred", 2))
            # The switches between bar the order, but not the ring.
            self.holds(False, OWN, ((0, 1, way), (1, 0, 1), (2, 1, way)), ("barred", 2))

    def test_written_out_ways(self):
        stuck = ((1, 1, 1),)
        self.holds(True, OWN, stuck, ("ways", ((1, ("one",)),) * 4))
        for rows in (((1, ("one",)),) * 3, ((1, ("one",)),) * 5, ((0, ("one",)),) * 4, ((1, ("one",)),) * 3 + ((0, ("one",)),)):
            self.holds(False, OWN, stuck, ("ways", rows))
        self.holds(False, OWN, stuck, ("ways", ((True, ("one",)),) * 4))
        self.holds(False, OWN, stuck, ("ways", [(1, ("one",))] * 4))
        self.holds(False, OWN, stuck, ("ways", ([1, ("one",)],) * 4))
        self.holds(False, OWN, stuck, ("ways", ((1, ["one"]),) * 4))
        self.holds(False, OWN, stuck, ("ways", ((1, ("one",), 0),) * 4))
        # By two of the four sides the first stage agrees.
        stuck = ((0, 0, 0), (1, 0, 1))
        self.holds(True, OWN, stuck, ("ways", ((0, ("one",)),) * 2))
        self.holds(False, OWN, stuck, ("ways", ((0, ("one",)),) * 4))
        self.holds(False, OWN, stuck, ("ways", ((-1, ("one",)),) * 2))
        self.holds(False, OWN, stuck, ("ways", ((2, ("one",)),) * 2))

    def test_ways_of_no_sides_where_none_agree(self):
        stuck = ((0, 1, 1), (2, 1, 0))
        self.holds(True, OWN, stuck, ("ways", ()))
        self.holds(False, OWN, stuck[:1], ("ways", ()))
        self.holds(False, OWN, (), ("ways", ()))
        stuck = ((0, 3, 1), (4, 3, 0))
        self.holds(True, EIGHT, stuck, ("ways", ()))
        self.holds(True, EIGHT, stuck, ("barred", 6))

    def test_told_papers_and_papers_of_other_hands(self):
        kinds = set()
        chance = Random(1)
        for many in (2, 4, 8):
            for order, stuck in lacking(many, 150 if many > 2 else 10, many):
                self.holds(True, order, stuck, led_around(order, stuck)[1])
                for _ in range(3):
                    paper = chance_none(order, stuck, chance)
                    kinds |= {(many, *kind) for kind in kinds_of(paper)}
                    self.holds(True, order, stuck, paper)
        wanted = {(2, "one"), (4, "barred"), (4, "ways"), (4, "ways", "one"), (8, "barred"), (8, "ways")}
        wanted |= {(8, "ways", "barred"), (8, "ways", "ways"), (8, "ways", "ways", "one")}
        self.assertLessEqual(wanted, kinds)

    def test_all_of_four_wires(self):
        chance = Random(2)
        for order in all_orders(4):
            for stuck in all_stuck(whole(2))[::5]:
                paper = chance_none(order, stuck, chance)
                if paper is not None:
                    self.assertIs(around_none_holds(order, stuck, paper), True)
                for thing in (("barred", 0), ("barred", 2), ("barred", 1), ("ways", ()), ("ways", ((0, ("one",)),))):
                    expected = slow_none_holds(order, stuck, thing)
                    self.assertIs(around_none_holds(order, stuck, thing), expected)

    def test_one_change_at_each_depth(self):
        chance = Random(3)
        for many in (2, 4, 8):
            for order, stuck in lacking(many, {2: 4, 4: 40, 8: 30}[many], many + 10, least=1):
                paper = chance_none(order, stuck, chance)
                things = list(changed(paper))
                for thing in things if many < 8 else chance.sample(things, min(len(things), 150)):
                    expected = slow_none_holds(order, stuck, thing)
                    self.assertIs(around_none_holds(order, stuck, thing), expected, (order, stuck, thing))

    def test_each_wire_barred(self):
        told = {True: 0, False: 0}
        for many in (4, 8):
            for order, stuck in lacking(many, 60, many + 20):
                for w in range(-1, many + 1):
                    expected = slow_none_holds(order, stuck, ("barred", w))
                    told[expected] += 1
                    self.holds(expected, order, stuck, ("barred", w))
        self.assertGreater(min(told.values()), 40)

    def test_rows_left_out_twice_and_in_another_order(self):
        chance = Random(4)
        moved = 0
        for many in (4, 8):
            for order, stuck in lacking(many, 60, many + 30, least=2):
                paper = ("ways", tuple(
                    (s, chance_none(*half(order, stuck, sides, s), chance))
                    for sides in sides_left(order, stuck)
                    for s in [next(s for s in (0, 1) if not slow_led(*half(order, stuck, sides, s)))]
                ))
                rows = paper[1]
                self.holds(True, order, stuck, paper)
                for at in range(len(rows)):
                    self.holds(False, order, stuck, ("ways", rows[:at] + rows[at + 1 :]))
                    self.holds(False, order, stuck, ("ways", rows[: at + 1] + rows[at:]))
                for other in (rows[::-1], rows[1:] + rows[:1], tuple(chance.sample(rows, len(rows)))):
                    expected = slow_none_holds(order, stuck, ("ways", other))
                    moved += not expected
                    self.holds(expected, order, stuck, ("ways", other))
        self.assertGreater(moved, 10)

    def test_another_half(self):
        refused = 0
        for many in (4, 8):
            for order, stuck in lacking(many, 60, many + 40, least=1):
                paper = led_around(order, stuck)[1]
                if paper[0] == "ways" and paper[1]:
                    s, under = paper[1][0]
                    thing = ("ways", ((1 - s, under),) + paper[1][1:])
                    expected = slow_none_holds(order, stuck, thing)
                    refused += not expected
                    self.holds(expected, order, stuck, thing)
        self.assertGreater(refused, 10)

    def test_papers_of_other_orders_and_other_stuck_switches(self):
        refused = 0
        for many in (2, 4, 8):
            cases = lacking(many, {2: 3, 4: 25, 8: 25}[many], many + 50)
            for order, stuck in cases:
                paper = led_around(order, stuck)[1]
                for other, bars in cases:
                    for one, two in ((other, stuck), (order, bars), (other, bars), (order, ()), (order, stuck[1:])):
                        expected = slow_none_holds(one, two, paper)
                        refused += not expected
                        self.assertIs(around_none_holds(one, two, paper), expected)
        self.assertGreater(refused, 500)

    def test_no_paper_is_let_by_where_an_order_is_led(self):
        chance = Random(5)
        for many in (2, 4, 8):
            pool = [led_around(*case)[1] for case in lacking(many, {2: 2, 4: 40, 8: 40}[many], many + 60)]
            pool += [("one",), ("ways", ())] + [("barred", w) for w in range(many)]
            pool += [("ways", ((s, ("one",)),) * k) for s in (0, 1) for k in range(1, 5)]
            for order in sample_orders(many, 10):
                for share in (0, 5, 10, 20):
                    stuck = chance_stuck(sizes()[many], share, chance)
                    if slow_led(order, stuck):
                        for paper in pool:
                            self.assertIs(around_none_holds(order, stuck, paper), False)

    def test_of_anything(self):
        cases = [case for many in (2, 4, 8) for case in lacking(many, 3, many + 70)]
        for order, stuck in cases:
            for thing in OTHER_THINGS:
                self.holds(False, order, stuck, thing)
                self.holds(False, order, stuck, ("barred", thing) if thing not in range(8) else ("barred", (thing,)))
                expected = slow_none_holds(order, stuck, ("ways", thing))
                self.holds(expected, order, stuck, ("ways", thing))
                self.holds(False, order, stuck, (thing, ()))
                self.holds(False, order, stuck, ("ways", (thing,)))


if __name__ == "__main__":
    unittest.main()
