"""Point 2 and the interface: the refusals."""

import unittest

from switchrows.errors import NetError, NoRow, NoText, TooMany

KINDS = (NoText, NoRow, TooMany)


class ErrorsTest(unittest.TestCase):
    def test_net_error_is_a_value_error(self):
        self.assertTrue(issubclass(NetError, ValueError))

    def test_each_kind_stands_under_net_error(self):
        for kind in KINDS:
            self.assertTrue(issubclass(kind, NetError), kind)

    def test_no_kind_stands_under_another(self):
        for kind in KINDS:
            for other in KINDS:
                if kind != other:
                    self.assertFalse(issubclass(kind, other), (kind, other))
            self.assertFalse(issubclass(NetError, kind), kind)

    def test_each_is_made_with_a_text(self):
        for kind in (NetError,) + KINDS:
            self.assertIn("why it is so", str(kind("why it is so")))

    def test_each_is_caught_as_its_bases(self):
        for kind in KINDS:
            for base in (kind, NetError, ValueError):
                with self.assertRaises(base):
                    raise kind("no")


if __name__ == "__main__":
    unittest.main()
