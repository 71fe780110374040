"""Point 6: nets, settings and part orders as texts."""

import copy
import unittest

from switchrows.errors import NetError, NoRow, NoText, TooMany
from switchrows.nets import is_net, is_part, is_setting
from switchrows.nettexts import read_net, read_part, read_setting, show_net, show_part, show_setting
from tests.samples import EMPTY_STAGES, MIXED, ONE_SWITCH, ONE_WIRE, OTHER_THINGS, SMALL_NETS, THREE
from tests.samples import all_orders, all_settings

WIDE = (32, (((0, 31), (1, 30), (9, 10)), tuple((a, a + 1) for a in range(0, 32, 2))))
LONG = (3, (((0, 1),), ((1, 2),)) * 10)


class TextTest(unittest.TestCase):
    def refused(self, reader, *args):
        before = copy.deepcopy(args)
        for _ in range(2):
            with self.assertRaises(NoText, msg=args) as caught:
                reader(*args)
            self.assertIsInstance(caught.exception, NetError)
            self.assertIsInstance(caught.exception, ValueError)
            self.assertNotIsInstance(caught.exception, (NoRow, TooMany))
        self.assertEqual(repr(args), repr(before))

    def alike(self, told, expected):
        """Equal also in kind, for 1 == True."""
        self.assertEqual(told, expected)
        self.assertEqual(repr(told), repr(expected))

    def nearly(self, text):
        """Texts that differ from a right one by a blank or a line end."""
        around = [" " + text, text + " ", "\n" + text, text + "\n", "\t" + text, text + "\t", text + "\n\n"]
        between = [text.replace(" ", "  ", 1), text.replace(" ", "", 1), text.replace(" ", "\t", 1)]
        lines = [text.replace("\n", " ", 1), text.replace("\n", "\n\n", 1), text.replace("\n", "\r\n", 1)]
        within = [text.replace("\n", " \n", 1), text.replace("\n", "\n ", 1), text.replace(" ", "\n", 1)]
        return [near for near in around + between + lines + within if near != text]


class NetTextTest(TextTest):
    def both(self, net, text):
        self.alike(show_net(net), text)
        self.alike(show_net(net), text)
        self.alike(read_net(text), net)
        self.alike(read_net(text), net)
        self.assertTrue(is_net(read_net(text)))

    def test_written_out(self):
        self.both((1, ()), "wires 1")
        self.both((10, ()), "wires 10")
        self.both((1, ((),)), "wires 1\n-")
        self.both((3, ((), ())), "wires 3\n-\n-")
        self.both((2, (((0, 1),),)), "wires 2\n0-1")
        self.both(THREE, "wires 3\n0-1\n1-2\n0-1")
        self.both(MIXED, "wires 4\n0-3 1-2\n-\n0-1 2-3\n1-2")
        self.both((12, (((0, 10), (9, 11)),)), "wires 12\n0-10 9-11")

    def test_at_the_bounds(self):
        text = "wires 32\n0-31 1-30 9-10\n" + " ".join(f"{a}-{a + 1}" for a in range(0, 32, 2))
        self.both(WIDE, text)
        self.both(LONG, "wires 3" + "\n0-1\n1-2" * 10)
        self.both((32, ()), "wires 32")
        self.both((32, ((),) * 20), "wires 32" + "\n-" * 20)

    def test_every_number_of_wires_and_stages(self):
        for many in range(1, 33):
            self.both((many, ()), f"wires {many}")
            for wire in range(1, many):
                self.both((many, (((0, wire),),)), f"wires {many}\n0-{wire}")
        for stages in range(21):
            self.both((2, (((0, 1),),) * stages), "wires 2" + "\n0-1" * stages)

    def test_beyond_the_bounds_is_written_but_not_read(self):
        for net, text in (
            ((33, ()), "wires 33"),
            ((64, (((0, 63),),)), "wires 64\n0-63"),
            ((100, ((),)), "wires 100\n-"),
            ((3, (((0, 1),),) * 21), "wires 3" + "\n0-1" * 21),
            ((1, ((),) * 21), "wires 1" + "\n-" * 21),
            ((10**39, ()), "wires 1" + "0" * 39),
        ):
            self.alike(show_net(net), text)
            self.refused(read_net, text)

    def test_a_blank_or_a_line_end_more_or_fewer(self):
        for net in SMALL_NETS + (WIDE, LONG):
            for near in self.nearly(show_net(net)):
                self.refused(read_net, near)

    def test_wrong_heads(self):
        for text in (
            "", "wires", "wires ", "wires 0", "wires -1", "wires +1", "wires 01", "wires 002", "wires x", "wires .",
            "wires 1.0", "wires 1_0", "wires 1 1", "Wires 1", "WIRES 1", "wire 1", "wiress 1", "1", "wires:1", "-",
            "0-1", "\n0-1", "many 2\n0-1", "wires 00", "wires 0\n-", "wires 1e1", "wires one", "wires wires 1",
            "wires " + "9" * 3990, "wires " + "0" * 3990, "wires \n1",
        ):
            self.refused(read_net, text)

    def test_wrong_lines(self):
        for line in (
            "", " ", "--", "- -", "=", "x", ".", "0", "0-", "-0", "-1", "0--1", "0-1-2", "0 1", "0-1,2-3", "0-1;2-3",
            "00-1", "0-01", "+0-1", "0-+1", "0 -1", "0- 1", "a-b", "0-x", "0:1", "0=1", "0-1 -", "- 0-1", "0-1 2",
            "0-1  2-3", "0-1\t2-3", "(0-1)", "0-1.", "0-1x", "0_1", "0-1 2-3 ", "0-" + "1" * 3000, "0~1",
        ):
            self.refused(read_net, "wires 4\n" + line)
            self.refused(read_net, "wires 4\n0-1\n" + line)
            self.refused(read_net, "wires 4\n" + line + "\n0-1")

    def test_lines_that_are_no_stage(self):
        for line in ("0-0", "1-0", "0-4", "4-5", "2-3 0-1", "0-1 0-1", "0-1 1-2", "0-2 1-2", "0-1 0-2", "1-2 0-3"):
            self.refused(read_net, "wires 4\n" + line)
        self.refused(read_net, "wires 1\n0-1")
        self.refused(read_net, "wires 31\n0-31")

    def test_things_that_are_no_texts(self):
        for thing in OTHER_THINGS + SMALL_NETS:
            self.refused(read_net, thing)
        for thing in (["wires 1"], ("wires 1",), {"wires 1": 1}, ["wires 2", "0-1"]):
            self.refused(read_net, thing)


class SettingTextTest(TextTest):
    def both(self, net, setting, text):
        self.alike(show_setting(net, setting), text)
        self.alike(show_setting(net, setting), text)
        self.alike(read_setting(net, text), setting)
        self.alike(read_setting(net, text), setting)
        self.assertTrue(is_setting(net, read_setting(net, text)))

    def test_written_out(self):
        self.both(ONE_WIRE, (), "")
        self.both((5, ()), (), "")
        self.both((1, ((),)), ((),), "-")
        self.both(EMPTY_STAGES, ((), ()), "- -")
        self.both(ONE_SWITCH, ((0,),), "=")
        self.both(ONE_SWITCH, ((1,),), "x")
        self.both(THREE, ((1,), (0,), (1,)), "x = x")
        self.both(MIXED, ((0, 1), (), (1, 0), (1,)), "=x - x= x")

    def test_at_the_bounds_and_beyond(self):
        self.both(WIDE, ((0, 1, 1), (0, 1) * 8), "=xx " + "=x" * 8)
        self.both(LONG, ((0,), (1,)) * 10, " ".join(["= x"] * 10))
        self.both((3, LONG[1] * 2), ((0,), (1,)) * 20, " ".join(["= x"] * 20))
        pairs = tuple((a, a + 1) for a in range(0, 66, 2))
        self.both((66, (pairs,)), ((1,) * 32 + (0,),), "x" * 32 + "=")

    def test_each_setting_has_its_own_text(self):
        for net in SMALL_NETS:
            texts = {}
            for setting in all_settings(net):
                text = show_setting(net, setting)
                self.both(net, setting, text)
                texts[text] = True
            self.assertEqual(len(texts), len(all_settings(net)))

    def test_a_blank_or_a_line_end_more_or_fewer(self):
        for net in SMALL_NETS:
            for setting in all_settings(net):
                for near in self.nearly(show_setting(net, setting)):
                    self.refused(read_setting, net, near)

    def test_wrong_texts(self):
        for text in ("", "-", "0", "1", "==", "xx", "=x", "= =", "= -", "- =", "X", "+", ".", "~", "=" * 4000, "x\n"):
            self.refused(read_setting, ONE_SWITCH, text)
        for text in ("", "-", "- =", "- x", "= =", "- - -", "--", "  ", " "):
            self.refused(read_setting, EMPTY_STAGES, text)
        for text in ("-", "=", "x", " ", "\n", "0"):
            self.refused(read_setting, ONE_WIRE, text)
        for text in ("= =", "= = = =", "= = -", "= x 1", "== =", "=x=", "= X ="):
            self.refused(read_setting, THREE, text)
        for text in ("== == =", "== = == =", "==  == =", "= - == =", "=- - == =", "== - == -", "== - === =", "== - =="):
            self.refused(read_setting, MIXED, text)

    def test_things_that_are_no_texts(self):
        for thing in OTHER_THINGS:
            self.refused(read_setting, ONE_SWITCH, thing)
            self.refused(read_setting, MIXED, thing)
        for thing in (["="], ("=",), {"=": 0}, ((0,),), 0, None, True):
            self.refused(read_setting, ONE_SWITCH, thing)
        for thing in ((), [], {}, None, False, 0):
            self.refused(read_setting, ONE_WIRE, thing)


class PartTextTest(TextTest):
    def both(self, part, text):
        self.alike(show_part(part), text)
        self.alike(show_part(part), text)
        self.alike(read_part(len(part), text), part)
        self.alike(read_part(len(part), text), part)
        self.assertTrue(is_part(len(part), read_part(len(part), text)))

    def test_written_out(self):
        self.both((0,), "0")
        self.both((None,), ".")
        self.both((1, 0), "1 0")
        self.both((None, 0), ". 0")
        self.both((2, None, 0), "2 . 0")
        self.both((None,) * 4, ". . . .")
        self.both(tuple(range(32))[::-1], " ".join(str(31 - w) for w in range(32)))
        self.both((None,) * 32, " ".join("." * 32))
        self.both(tuple(range(100)), " ".join(str(w) for w in range(100)))

    def test_every_order_of_four(self):
        for order in all_orders(4):
            self.both(order, "{} {} {} {}".format(*order))

    def test_a_blank_or_a_line_end_more_or_fewer(self):
        for part in ((0,), (None,), (1, 0), (None, 1), (None, None), tuple(range(32))):
            for near in self.nearly(show_part(part)):
                self.refused(read_part, len(part), near)

    def test_wrong_texts(self):
        for text in (
            "", " ", "0", "0 1 2", "0 1 .", "0,1", "00 1", "0 01", "+0 1", "0 +1", "-0 1", "0 -1", "0 2", "2 0", "0 0",
            "1 1", "0 x", "- -", "0 -", "_ _", ". .0", "0 ..", "..", "0.1", "01", "None 0", "* *", "0 1.0", "1 0\n",
            "0 " + "1" * 3990, "0 " + "0" * 3990, "0 10", "True False", "0 1 ", "0;1",
        ):
            self.refused(read_part, 2, text)
        self.refused(read_part, 1, "")
        self.refused(read_part, 1, "1")
        self.refused(read_part, 32, " ".join(str(w) for w in range(1, 33)))
        self.refused(read_part, 3, ". . . .")
        self.refused(read_part, 3, ". .")

    def test_things_that_are_no_texts(self):
        for thing in OTHER_THINGS:
            self.refused(read_part, 2, thing)
        for thing in ((0, 1), [0, 1], ["0", "1"], ("0 1",), None, 0, True, {"0 1": 0}):
            self.refused(read_part, 2, thing)
        for thing in ((), [], {}, 0, False, None, ("0",), (0,)):
            self.refused(read_part, 1, thing)


if __name__ == "__main__":
    unittest.main()
