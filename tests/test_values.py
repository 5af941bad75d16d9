"""[3], [5], [6]: integers, words, values, and when two values are the same."""

import unittest

from helpers import doing, failure
from turnways.errors import BadLimit, BadName, BadSize, BadValue
from turnways.runs import Run, replay
from turnways.shops import Shop

VALUES = (
    0,
    -1,
    123456789012,
    True,
    False,
    None,
    "",
    "any sign at all: %\n",
    (),
    (1, "a", True, None),
    ((((1,),),), ()),
)
NO_VALUES = (1.0, b"a", [], {}, set(), frozenset(), object(), len, 1j, ([],), (1, (2, (3, (4.0,)))))

# Pairs that are equal and not the same, alone and at several depths.
UNLIKE = (
    (1, True),
    (0, False),
    ((1,), (True,)),
    ((0, "a"), (False, "a")),
    ((("a", 1),), (("a", True),)),
    ((((0,),), 2), (((False,),), 2)),
    ((1, True), (True, 1)),
    ((1, 1, 1), (1, 1, True)),
)


class Values(unittest.TestCase):
    def test_what_is_a_value(self):
        for value in VALUES:
            run = Run(Shop([doing(("look", "x"))], cells={"x": value}))
            self.assertEqual(repr(run.go(0)), repr(value))
            self.assertEqual(repr(run.ends()), repr((("told", (value,)),)))

    def test_what_is_none(self):
        for value in NO_VALUES:
            error = failure(BadValue, Shop, [len], cells={"x": value})
            self.assertIs(error.value, value)

    def test_numbers_strings_and_tuples_beyond_the_limits_are_values(self):
        for value in (10**13, -(10**20), "a" * 30, tuple(range(12)), ((((((1,),),),),),)):
            run = Run(Shop([doing(("put", "x", value))], cells={"x": None}))
            run.go(0)
            self.assertEqual(run.cell("x"), value)


class Same(unittest.TestCase):
    def trade(self, there, old):
        run = Run(Shop([doing(("trade", "x", old, "new"))], cells={"x": there}))
        answer = run.go(0)
        self.assertIsInstance(answer, bool)
        self.assertEqual(repr(run.cell("x")), repr("new" if answer else there))
        return answer

    def until(self, there, value):
        run = Run(Shop([doing(("until", "x", value))], cells={"x": there}))
        self.assertIs(run.stands(), run.can() == [])
        return run.can() == [0]

    def test_equal_and_alike_in_kind(self):
        for value in VALUES:
            self.assertTrue(self.trade(value, value))
            self.assertTrue(self.until(value, value))

    def test_tuples_that_are_other_objects_are_the_same(self):
        one, other = tuple([1, tuple(["a", 2])]), tuple([1, tuple(["a", 2])])
        self.assertIsNot(one, other)
        self.assertTrue(self.trade(one, other))
        self.assertTrue(self.until(one, other))

    def test_equal_and_not_the_same(self):
        for one, other in UNLIKE:
            self.assertEqual(one, other)
            for there, given in ((one, other), (other, one)):
                self.assertFalse(self.trade(there, given))
                self.assertFalse(self.until(there, given))

    def test_each_of_them_is_the_same_as_itself(self):
        for pair in UNLIKE:
            for value in pair:
                self.assertTrue(self.trade(value, value))
                self.assertTrue(self.until(value, value))

    def test_unlike_values_are_not_the_same(self):
        for at, one in enumerate(VALUES):
            for other in VALUES[:at]:
                self.assertFalse(self.trade(one, other))
                self.assertFalse(self.until(other, one))

    def test_tuples_that_begin_others_are_not_the_same(self):
        for one, other in (((), (1,)), ((1,), (1, 2)), (((1,),), ((1, None),))):
            self.assertFalse(self.trade(one, other))
            self.assertFalse(self.trade(other, one))

    def test_a_work_waits_until_the_truth_and_not_the_number_comes(self):
        shop = Shop([doing(("until", "x", (1, (True,)))), doing(("put", "x", (1, (1,))), ("put", "x", (1, (True,))))],
                    cells={"x": 0})
        run = replay(shop, (1,))
        self.assertEqual(run.can(), [1])
        run.go(1)
        self.assertEqual(run.can(), [0])


class Integers(unittest.TestCase):
    def test_truths_are_no_integers(self):
        for truth in (True, False):
            self.assertIs(failure(BadSize, Shop, [len], belts={"b": truth}).size, truth)
            self.assertIs(failure(BadLimit, Shop, [len], longest=truth).limit, truth)
            self.assertIs(failure(BadLimit, Shop, [len], most=truth).limit, truth)


class Words(unittest.TestCase):
    def test_words(self):
        for name in ("a", "z", "az", "abcdefgh", "zzzzzzzz"):
            self.assertEqual(Shop([len], locks=[name]).names(), [name])

    def test_no_words(self):
        bad = ("", "abcdefghi", "A", "aB", "a1", "1", "a b", " a", "a\n", "a_", "\u00e9", "\u00df", "\u0430",
               "`", "{", None, 1, True, ("a",), ["a"], b"a")
        for name in bad:
            self.assertIs(failure(BadName, Shop, [len], locks=[name]).name, name)


if __name__ == "__main__":
    unittest.main()
