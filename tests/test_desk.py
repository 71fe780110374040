"""Point 33, and 2 of it: the desk."""

import unittest
from random import Random

from switchrows.around import led_around
from switchrows.bitnets import bit_net
from switchrows.comparing import compared
from switchrows.desk import Desk
from switchrows.errors import NoRow
from switchrows.going import gone
from switchrows.leading import many_settings, setting_for
from switchrows.nettexts import read_setting, show_net, show_part, show_setting
from switchrows.rings import rings_of
from switchrows.rounds import load_of, rounds_of
from switchrows.sorters import sorter
from switchrows.stuck import agrees, is_stuck
from switchrows.walking import leads, way_of
from switchrows.wholes import whole
from tests.asking import AskingTest
from tests.bybits import plain_bits
from tests.samples import OTHER_THINGS, all_orders, sample_orders, switches_of


def numbers(row):
    return " ".join(map(str, row))


def strokes(rows):
    return " / ".join(map(numbers, rows))


def line(word, row):
    """A question of numbers, perhaps of none."""
    return " ".join([word, *map(str, row)])


def desk_with(m, order=None, stuck=()):
    """A desk to which an order and stuck switches are said."""
    desk = Desk(m)
    if order is not None:
        desk.say(line("order", order))
    for stage, number, way in stuck:
        desk.say(f"stick {stage} {number} {'=x'[way]}")
    return desk


class DeskTest(AskingTest):
    def says(self, desk, text, expected):
        """A question is answered twice alike, and changes nothing."""
        before = (desk.order(), desk.stuck())
        for _ in range(2):
            told = desk.say(text)
            self.assertIs(type(told), str)
            self.assertEqual(told, expected, text)
        self.assertEqual((desk.order(), desk.stuck()), before)

    def does(self, desk, text):
        self.assertEqual(desk.say(text), "ok", text)

    def no_row(self, desk, thing):
        """Just NoRow, twice, and nothing is changed."""
        before = (desk.order(), desk.stuck())
        self.refused(NoRow, desk.say, thing)
        self.assertEqual((desk.order(), desk.stuck()), before)

    def samples(self):
        """Desks of m 1 to 3 with several orders and stuck switches."""
        chance = Random(1)
        for m in (1, 2, 3):
            for order in {1: all_orders(2) * 3, 2: all_orders(4)[::3], 3: sample_orders(8, 12)}[m]:
                places = switches_of(whole(m))
                for many in (0, 1, len(places) // 4, len(places)):
                    some = sorted(chance.sample(places, many))
                    stuck = tuple((*place, chance.randrange(2)) for place in some)
                    yield m, order, stuck, desk_with(m, order, stuck)


class NewDeskTest(DeskTest):
    def test_at_first(self):
        for m in (1, 2, 3):
            desk = Desk(m)
            self.assertEqual(desk.order(), tuple(range(2**m)))
            self.assertEqual(desk.stuck(), ())
            self.assertEqual((self.told(desk.order), self.told(desk.stuck)), (tuple(range(2**m)), ()))

    def test_the_methods_stand_in_the_class(self):
        for name in ("say", "order", "stuck"):
            self.assertIn(name, vars(Desk))

    def test_written_out(self):
        desk = Desk(1)
        self.says(desk, "net", "wires 2 / 0-1")
        self.says(desk, "rings", "0 1")
        self.says(desk, "many", "1")
        self.says(desk, "lead", "led =")
        self.says(desk, "way 1", "1 1")
        self.says(desk, "bits", "led")
        self.says(desk, "bits 0", "led =")
        self.says(desk, "rounds", "0 1")
        self.says(desk, "load", "0")
        self.says(desk, "load 0", "1")
        self.says(desk, "sort 3 2", "2 3")
        self.does(desk, "order 1 0")
        self.says(desk, "rings", "0 1")
        self.says(desk, "many", "1")
        self.says(desk, "lead", "led x")
        self.says(desk, "way 1", "1 0")
        for word in ("bits", "rounds", "load"):
            self.says(desk, word, "stays 0")
        self.says(desk, "bits 0", "led x")
        self.does(desk, "stick 0 0 =")
        self.says(desk, "lead", "none")
        self.says(desk, "way 1", "1 0")
        self.does(desk, "free 0 0")
        self.does(desk, "stick 0 0 x")
        self.says(desk, "lead", "led x")

    def test_written_out_of_four_wires(self):
        desk = Desk(2)
        self.says(desk, "net", "wires 4 / 0-1 2-3 / 0-2 1-3 / 0-1 2-3")
        self.says(desk, "rings", "0 1 / 2 3")
        self.says(desk, "bits 1 0", "led == ==")
        self.does(desk, "order 0 2 1 3")
        self.says(desk, "rings", "0 2 3 1")
        self.says(desk, "many", "2")
        self.says(desk, "way 1", "1 1 3 2")
        self.says(desk, "bits 0 1", "meet 0 0 0 1")
        self.says(desk, "bits 0", "stays 1")
        self.says(desk, "rounds 0 1", "0 2 / 1 3")
        self.says(desk, "rounds 1 0", "0 1 / 2 3")
        self.says(desk, "load 0 1", "2")
        self.says(desk, "rounds 1", "stays 1")
        self.says(desk, "load", "stays 1")
        self.says(desk, "sort 4 4 0 999999999", "0 4 4 999999999")


class DeedTest(DeskTest):
    def test_orders(self):
        for m in (1, 2, 3):
            desk = Desk(m)
            for order in all_orders(2**m)[:: 1 if m < 3 else 997]:
                self.does(desk, f"order {show_part(order)}")
                self.assertEqual(repr(self.told(desk.order)), repr(order))
                self.assertEqual(desk.stuck(), ())

    def test_an_order_keeps_what_is_stuck(self):
        desk = desk_with(2, stuck=((1, 0, 1),))
        self.does(desk, "order 3 2 1 0")
        self.assertEqual((desk.order(), desk.stuck()), ((3, 2, 1, 0), ((1, 0, 1),)))

    def test_stick_and_free(self):
        chance = Random(2)
        for m in (1, 2, 3):
            net = whole(m)
            desk = Desk(m)
            held = {}
            for _ in range(150):
                place = chance.choice(switches_of(net))
                way = chance.randrange(2)
                stick, free = line("stick", place) + " " + "=x"[way], line("free", place)
                if place in held:
                    self.no_row(desk, stick)
                    if chance.randrange(2):
                        self.does(desk, free)
                        del held[place]
                else:
                    self.no_row(desk, free)
                    self.does(desk, stick)
                    held[place] = way
                expected = tuple((*one, held[one]) for one in sorted(held))
                self.assertEqual(repr(self.told(desk.stuck)), repr(expected))
                self.assertTrue(is_stuck(net, desk.stuck()))
                self.assertEqual(desk.order(), tuple(range(2**m)))

    def test_stuck_already_whichever_way(self):
        for way, other in ("=x", "x=", "==", "xx"):
            desk = Desk(2)
            self.does(desk, f"stick 1 1 {way}")
            self.no_row(desk, f"stick 1 1 {other}")
            self.assertEqual(desk.stuck(), ((1, 1, "=x".index(way)),))
            self.no_row(desk, "free 1 0")
            self.does(desk, "free 1 1")
            self.no_row(desk, "free 1 1")
            self.does(desk, f"stick 1 1 {other}")
            self.assertEqual(desk.stuck(), ((1, 1, "=x".index(other)),))


class QuestionTest(DeskTest):
    def test_lead(self):
        kinds = set()
        for m, order, stuck, desk in self.samples():
            self.assertEqual((desk.order(), desk.stuck()), (order, stuck))
            told = desk.say("lead")
            self.says(desk, "lead", told)
            if led_around(order, stuck)[0] == "none":
                self.assertEqual(told, "none")
            else:
                self.assertEqual(told[:4], "led ")
                setting = read_setting(whole(m), told[4:])
                self.assertTrue(agrees(stuck, setting))
                self.assertTrue(leads(whole(m), setting, order))
            kinds.add((m, told[:4]))
        self.assertEqual(kinds, {(m, kind) for m in (1, 2, 3) for kind in ("led ", "none")})

    def test_way_rings_many_net_whatever_is_stuck(self):
        for m, order, stuck, desk in self.samples():
            net = whole(m)
            for w in range(2**m):
                self.says(desk, f"way {w}", numbers(way_of(net, setting_for(order), w)))
            self.says(desk, "rings", "0 1" if m == 1 else strokes(rings_of(order)))
            self.says(desk, "many", str(many_settings(order)))
            self.says(desk, "net", " / ".join(show_net(net).split("\n")))

    def test_bits_rounds_and_load(self):
        kinds = set()
        for m, order, stuck, desk in self.samples():
            for bits in plain_bits(m):
                told = gone(m, bits, order)
                kinds.add(told[0])
                if told[0] == "led":
                    text = show_setting(bit_net(m, bits), told[1])
                    self.says(desk, line("bits", bits), f"led {text}" if bits else "led")
                else:
                    self.says(desk, line("bits", bits), " ".join(map(str, told)))
                if told[0] == "stays":
                    self.says(desk, line("rounds", bits), f"stays {told[1]}")
                    self.says(desk, line("load", bits), f"stays {told[1]}")
                else:
                    self.says(desk, line("rounds", bits), strokes(rounds_of(m, bits, order)))
                    self.says(desk, line("load", bits), str(load_of(m, bits, order)[0]))
        self.assertEqual(kinds, {"stays", "meet", "led"})

    def test_sort(self):
        chance = Random(3)
        for m, order, stuck, desk in self.samples():
            for span in (2, 10, 10**9):
                row = tuple(chance.randrange(span) for _ in range(2**m))
                self.says(desk, line("sort", row), numbers(compared(sorter(m), row)[0]))
                self.says(desk, line("sort", row), numbers(sorted(row)))

    def test_sort_of_nine_figures_at_most(self):
        desk = Desk(1)
        self.says(desk, "sort 999999999 0", "0 999999999")
        for word in ("1000000000", "0000000000", "000000001", "00", "01", "-1", "+1", "1.0", "", "9" * 3990):
            self.no_row(desk, f"sort {word} 0")
            self.no_row(desk, f"sort 0 {word}")


class RefusedTest(DeskTest):
    def good_rows(self, m):
        """Rows that a desk with one stuck switch understands, of each kind."""
        own = line("order", range(2**m))
        rows = [own, line("sort", range(2**m)), "free 0 0", "lead", "rings", "many", "net", f"way {2**m - 1}"]
        rows += ["bits", "rounds", "load", "bits 0", "rounds 0", "load 0"]
        if m > 1:
            rows += ["stick 1 0 =", "stick 1 1 x", "bits 1 0", "rounds 1 0", "load 1 0"]
        return rows

    def desks(self):
        for m in (1, 2, 3):
            turned = tuple(range(2**m))[::-1]
            yield m, lambda: desk_with(m, turned, ((0, 0, 1),))

    def test_the_rows_are_understood(self):
        for m, made in self.desks():
            for row in self.good_rows(m):
                self.assertIs(type(made().say(row)), str)

    def test_blanks(self):
        for m, made in self.desks():
            for row in self.good_rows(m):
                things = [" " + row, row + " ", "\n" + row, row + "\n", row + "\n" + row, "\t" + row, row + "\r"]
                for at, sign in enumerate(row):
                    if sign == " ":
                        things += [row[:at] + other + row[at + 1 :] for other in ("  ", "\n", "\t", "", ",", " \n", " / ")]
                for thing in things:
                    self.no_row(made(), thing)

    def test_a_word_too_few_or_too_many(self):
        for m, made in self.desks():
            for row in self.good_rows(m):
                words = row.split(" ")
                things = [row + " x", row + " -", row + " " + row]
                if words[0] not in ("bits", "rounds", "load"):
                    things += [row + " 0", " ".join(words[:-1]), " ".join(words[1:])]
                for thing in things:
                    self.no_row(made(), thing)

    def test_other_words(self):
        for m, made in self.desks():
            for row in self.good_rows(m):
                word, _, rest = row.partition(" ")
                for other in (word.upper(), word.title(), word[:-1], word + "s", word + ":", "", "stuck", "say", "none", "ok", "led"):
                    self.no_row(made(), f"{other} {rest}".strip(" ") if rest else other)

    def test_numbers_written_otherwise(self):
        for m, made in self.desks():
            for row in self.good_rows(m):
                words = row.split(" ")
                for at, word in enumerate(words):
                    if at and word.isdigit():
                        for other in ("0" + word, "+" + word, "-" + word, word + ".0", word + "_0", "x" + word, "", ".", "-",
                                      str(10**39), "9" * 3900, "\u0661", "\u00b2", word + "\n"):
                            self.no_row(made(), " ".join(words[:at] + [other] + words[at + 1 :]))

    def test_what_there_is_not(self):
        for m, made in self.desks():
            last = 2 * m - 2
            things = [f"way {2**m}", f"stick {last + 1} 0 =", f"stick 0 {2 ** (m - 1)} =", f"free {last + 1} 0"]
            things += [f"free 0 {2 ** (m - 1)}", f"bits {m}", f"rounds {m}", f"load {m}", f"bits 0 {m}"]
            for thing in things:
                self.no_row(made(), thing)

    def test_the_same_bit_twice(self):
        for m, made in self.desks():
            for word in ("bits", "rounds", "load"):
                for b in range(m):
                    self.no_row(made(), f"{word} {b} {b}")
                self.no_row(made(), line(word, [*range(m), 0]))
                self.no_row(made(), line(word, [*range(m), m - 1]))

    def test_no_orders(self):
        for m, made in self.desks():
            many = 2**m
            own = list(range(many))
            rows = [own[:-1], own + [0], own + [many], own[:-1] + [many], own[:-1] + [0], ["."] * many, own[:-1] + ["."]]
            for row in rows + [["None"] * many, [], [""], ["-"]]:
                self.no_row(made(), line("order", row))
            self.no_row(made(), "order")

    def test_no_signs(self):
        for m, made in self.desks():
            desk = made()
            desk.say("free 0 0")
            for sign in ("0", "1", "=x", "==", "xx", "x=", "X", "-", "", "+", "=\n", ".", "crossed"):
                self.no_row(desk, f"stick 0 0 {sign}")
            self.no_row(desk, "stick 0 0")
            self.no_row(desk, "stick 0 =")
            self.no_row(desk, "stick = 0 0")
            self.does(desk, "stick 0 0 x")

    def test_things_that_are_no_texts(self):
        for m, made in self.desks():
            for thing in tuple(thing for thing in OTHER_THINGS if thing != "net") + (["net"], ("net",), {"net": "net"}, ("order", "0", "1"), b"net", [["net"]]):
                self.no_row(made(), thing)

    def test_a_refusal_is_no_other_one(self):
        for row in ("order 0 0", "order .", "stick 9 9 9", "bits x", "nothing", 5):
            with self.assertRaises(NoRow) as caught:
                Desk(2).say(row)
            self.assertIs(type(caught.exception), NoRow)


class TurnsTest(DeskTest):
    def test_two_desks_by_turns(self):
        one, other = Desk(2), Desk(2)
        self.does(one, "order 1 0 3 2")
        self.does(other, "stick 0 1 x")
        self.does(one, "stick 2 0 =")
        self.does(other, "order 3 1 2 0")
        self.assertEqual((one.order(), one.stuck()), ((1, 0, 3, 2), ((2, 0, 0),)))
        self.assertEqual((other.order(), other.stuck()), ((3, 1, 2, 0), ((0, 1, 1),)))
        small, great = Desk(1), Desk(3)
        self.says(small, "net", "wires 2 / 0-1")
        self.assertEqual(great.say("net").split(" / ")[0], "wires 8")
        self.assertEqual((Desk(2).order(), Desk(2).stuck()), ((0, 1, 2, 3), ()))

    def test_what_is_told_hangs_on_the_order_and_what_is_stuck_alone(self):
        chance = Random(5)
        asks = ["lead", "rings", "many", "net", "way 0", "way 1", "bits", "bits 0", "rounds 0", "load 0"]
        for m in (1, 2, 3):
            places = switches_of(whole(m))
            desk = Desk(m)
            for _ in range(60):
                order = chance.sample(range(2**m), 2**m)
                stage, number = chance.choice(places)
                deeds = [line("order", order), f"stick {stage} {number} {chance.choice('=x')}", f"free {stage} {number}"]
                for text in chance.sample(deeds, 3) + chance.sample(asks, 3) + ["nothing"]:
                    try:
                        desk.say(text)
                    except NoRow:
                        pass
                # A new desk to which only the order and what is stuck are said tells the same.
                like = desk_with(m, desk.order(), chance.sample(desk.stuck(), len(desk.stuck())))
                self.assertEqual((like.order(), like.stuck()), (desk.order(), desk.stuck()))
                for ask in asks:
                    self.assertEqual(like.say(ask), desk.say(ask))


if __name__ == "__main__":
    unittest.main()
