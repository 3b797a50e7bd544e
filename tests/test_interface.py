"""The examples of the interface, and where its names are defined."""

import inspect
import unittest

from claimclasses import makers, scales
from claimclasses.makers import both, by_steps, delayed, protected, renumbered
from claimclasses.scales import Scale


def ladder():
    return Scale([100, 140, 200], [[0, 1, 2], [0, 2, 2], [1, 2, 2]])


class ExamplesTest(unittest.TestCase):

    def test_first_example_of_scales(self):
        scale = ladder()
        told = [scale(0, 1), scale(2, 7), scale.classes(1, [1, 0, 0]), scale.bills(1, [1, 0, 0]),
                scale.paid(1, [1, 0, 0])]
        self.assertEqual(repr(told), "[1, 2, [1, 2, 1, 0], [140, 200, 140], 480]")

    def test_second_example_of_scales(self):
        scale = ladder()
        told = [len(scale), scale.columns, 3 in scale, scale.reached(0), scale.way(0, 2), (scale + 5).premium(1),
                scale.limited(2)(0, 2)]
        self.assertEqual(repr(told), "[3, 3, False, [0, 1, 2], [2], 145, 1]")

    def test_first_example_of_makers(self):
        short = by_steps([50, 80], 1, [1])
        told = [short.table(), protected(short, 1).table(), delayed(short).table()]
        self.assertEqual(repr(told), "[[[0, 1], [0, 1]], [[1, 2, 2], [1, 0, 2], [1, 2, 2], [1, 0, 2]], "
                                     "[[0, 1], [2, 3], [0, 1], [2, 3]]]")

    def test_second_example_of_makers(self):
        short = by_steps([50, 80], 1, [1])
        told = [both(short, ladder()).premiums(), renumbered(ladder(), [2, 0, 1]).table()]
        self.assertEqual(repr(told), "[[150, 190, 250, 180, 220, 280], [[2, 0, 0], [1, 2, 0], [1, 0, 0]]]")


class NamesTest(unittest.TestCase):

    def test_methods_stand_in_the_class_itself(self):
        methods = ("__init__", "__call__", "__len__", "__contains__", "__add__", "__mul__", "premium", "premiums",
                   "table", "classes", "bills", "paid", "reached", "way", "limited", "same")
        for name in methods:
            self.assertTrue(inspect.isfunction(vars(Scale)[name]), name)
        self.assertIsInstance(vars(Scale)["columns"], property)
        self.assertEqual(Scale.__module__, scales.__name__)

    def test_functions_stand_in_their_file(self):
        for name in ("by_steps", "protected", "both", "delayed", "renumbered"):
            self.assertEqual(getattr(makers, name).__module__, makers.__name__, name)

    def test_arguments_have_their_names(self):
        arguments = {
            Scale: ["premiums", "table"],
            Scale.__call__: ["self", "at", "claims"],
            Scale.premium: ["self", "at"],
            Scale.premiums: ["self"],
            Scale.table: ["self"],
            Scale.classes: ["self", "start", "row"],
            Scale.bills: ["self", "start", "row"],
            Scale.paid: ["self", "start", "row"],
            Scale.reached: ["self", "start"],
            Scale.way: ["self", "start", "goal"],
            Scale.limited: ["self", "columns"],
            Scale.same: ["self", "other"],
            by_steps: ["premiums", "down", "ups"],
            protected: ["scale", "years"],
            both: ["one", "other"],
            delayed: ["scale"],
            renumbered: ["scale", "order"],
        }
        for thing, names in arguments.items():
            self.assertEqual(list(inspect.signature(thing).parameters), names, thing)


if __name__ == "__main__":
    unittest.main()
