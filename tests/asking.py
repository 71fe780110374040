"""Asking twice of things that stay as they were: point 2, for all that is told."""

import copy
import unittest


class AskingTest(unittest.TestCase):
    def ask(self, expected, asked, *args):
        """True and False alone are told, and the same each time."""
        before = copy.deepcopy(args)
        self.assertIs(asked(*args), expected, args)
        self.assertIs(asked(*args), expected, args)
        self.assertEqual(repr(args), repr(before))

    def told(self, asked, *args):
        """What is told, and is told again, made of tuples, whole numbers, texts and None."""
        before = copy.deepcopy(args)
        thing = asked(*args)
        self.assertEqual(repr(asked(*args)), repr(thing))
        self.assertEqual(repr(args), repr(before))
        self.plain(thing)
        return thing

    def plain(self, thing):
        """Nothing that is told holds a list, a truth or an own kind of tuple or number."""
        self.assertIn(type(thing), (tuple, int, str, type(None)), thing)
        if type(thing) is tuple:
            for part in thing:
                self.plain(part)

    def refused(self, error, asked, *args):
        """Just this refusal is told, each time."""
        before = copy.deepcopy(args)
        for _ in range(2):
            with self.assertRaises(error) as caught:
                asked(*args)
            self.assertIs(type(caught.exception), error)
        self.assertEqual(repr(args), repr(before))
