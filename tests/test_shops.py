"""[3], [5], [7] to [10]: shops, what they refuse and in which order, names, beside."""

import unittest

from helpers import all_runs, doing, failure, idle, seen
from turnways.errors import BadLimit, BadName, BadSize, BadValue, BadWorks
from turnways.runs import Run, replay
from turnways.shops import Shop


class Making(unittest.TestCase):
    def test_attributes(self):
        shop = Shop([idle, idle, idle])
        self.assertEqual((shop.many, shop.longest, shop.most), (3, 24, 400))
        shop = Shop((idle,), longest=7, most=11)
        self.assertEqual((shop.many, shop.longest, shop.most), (1, 7, 11))

    def test_by_name_in_any_order(self):
        shop = Shop(most=3, belts={"b": 1}, locks=["l"], longest=2, cells={"c": 1}, works=[idle])
        self.assertEqual((shop.many, shop.longest, shop.most), (1, 2, 3))
        self.assertEqual(shop.names(), ["b", "c", "l"])

    def test_what_stands_behind_the_star_is_by_name_only(self):
        self.assertRaises(TypeError, Shop, [idle], {"c": 1})
        self.assertRaises(TypeError, Shop([idle]).beside, Shop([idle]), 24)

    def test_none_and_nothing_stand_for_no_things(self):
        for shop in (Shop([idle]), Shop([idle], cells=None, locks=(), belts=None), Shop([idle], cells={}, locks=[],
                                                                                       belts={})):
            self.assertEqual(shop.names(), [])
            self.assertEqual(Run(shop).outcome(), ((("told", None),), (), (), (), ((),)))

    def test_works_have_their_numbers_in_their_order(self):
        def tell(hand):
            return hand.me

        def twice(hand):
            return hand.me * 2

        shop = Shop([tell, twice, tell, twice])
        self.assertEqual(Run(shop).ends(), (("told", 0), ("told", 2), ("told", 2), ("told", 6)))

    def test_one_function_several_times_is_several_works(self):
        def work(hand):
            hand.say(hand.swap("x", hand.me))
            return hand.look("x")

        run = replay(Shop([work] * 4, cells={"x": None}), (2, 0, 3, 1, 0, 1, 2, 3))
        self.assertEqual([run.said(k) for k in range(4)], [(2,), (3,), (None,), (0,)])
        self.assertEqual(run.ends(), (("told", 1),) * 4)

    def test_works_of_any_kind(self):
        class Caller:
            def __init__(self, name):
                self.name = name

            def __call__(self, hand):
                return hand.look(self.name)

            def method(self, hand):
                return hand.look(self.name)

        shop = Shop([Caller("x"), Caller("x").method, lambda hand: hand.look("x"), doing(("look", "x"))],
                    cells={"x": 5})
        run = replay(shop, (3, 2, 1, 0))
        self.assertEqual(run.ends(), (("told", 5), ("told", 5), ("told", 5), ("told", (5,))))

    def test_names_are_told_ascending_in_a_new_list(self):
        shop = Shop([idle], cells={"m": 1, "b": 1}, locks=["z", "a"], belts={"y": 1, "c": None})
        self.assertEqual(shop.names(), ["a", "b", "c", "m", "y", "z"])
        shop.names().append("more")
        self.assertEqual(shop.names(), ["a", "b", "c", "m", "y", "z"])

    def test_what_was_passed_is_not_changed_and_later_changes_have_no_effect(self):
        works, cells, locks, belts = [doing(("swap", "c", 2), ("take", "l"), ("lay", "b", 1))], {"c": 1}, ["l"], {"b": 1}
        shop = Shop(works, cells=cells, locks=locks, belts=belts)
        run = replay(shop, [0, 0, 0])
        self.assertEqual((len(works), cells, locks, belts), (1, {"c": 1}, ["l"], {"b": 1}))
        other = Shop([idle], cells={"d": 1})
        both = shop.beside(other)
        before = seen(run), seen(Run(shop)), seen(Run(both))
        works.append(idle)
        works[0] = idle
        cells.update({"c": 5, "more": 6})
        locks.append("k")
        belts.update({"b": None, "more": 1})
        self.assertEqual((seen(run), seen(Run(shop)), seen(Run(both))), before)
        self.assertEqual(shop.names(), ["b", "c", "l"])
        self.assertEqual(shop.many, 1)

    def test_more_things_than_the_limit_are_no_error(self):
        cells = {letter: 1 for letter in "abcdefghijkl"}
        self.assertEqual(Shop([idle], cells=cells).names(), list("abcdefghijkl"))


class Refusals(unittest.TestCase):
    def test_too_few_and_too_many_works(self):
        self.assertEqual(failure(BadWorks, Shop, []).count, 0)
        self.assertEqual(failure(BadWorks, Shop, ()).count, 0)
        self.assertEqual(failure(BadWorks, Shop, [idle] * 5).count, 5)
        self.assertEqual(failure(BadWorks, Shop, (idle,) * 9).count, 9)
        for many in (1, 2, 3, 4):
            self.assertEqual(Shop([idle] * many).many, many)

    def test_names_of_each_kind(self):
        self.assertEqual(failure(BadName, Shop, [idle], cells={"a": 1, "B": 1, "C": 1}).name, "B")
        self.assertEqual(failure(BadName, Shop, [idle], locks=["a", "", "C"]).name, "")
        self.assertEqual(failure(BadName, Shop, [idle], belts={"a": 1, 7: 1, "C": 1}).name, 7)

    def test_names_that_stood_already(self):
        self.assertEqual(failure(BadName, Shop, [idle], locks=["a", "b", "b", "a"]).name, "b")
        self.assertEqual(failure(BadName, Shop, [idle], cells={"a": 1}, locks=["b", "a"]).name, "a")
        self.assertEqual(failure(BadName, Shop, [idle], cells={"a": 1}, belts={"a": 1}).name, "a")
        self.assertEqual(failure(BadName, Shop, [idle], locks=["c"], belts={"d": 1, "c": 1}).name, "c")

    def test_the_first_name_as_handed_in(self):
        error = failure(BadName, Shop, [idle], cells={"z": 1, "Z": 1, "A": 1}, locks=["z", "X"], belts={"": 1})
        self.assertEqual(error.name, "Z")
        error = failure(BadName, Shop, [idle], cells={"z": 1}, locks=["q", "z", "X"], belts={"": 1})
        self.assertEqual(error.name, "z")

    def test_a_name_that_is_equal_to_an_integer_is_no_word(self):
        self.assertIs(failure(BadName, Shop, [idle], cells={"a": 1, True: 1}).name, True)

    def test_the_first_value_as_handed_in(self):
        second, third = [2], [3]
        error = failure(BadValue, Shop, [idle], cells={"z": 1, "y": second, "a": third})
        self.assertIs(error.value, second)

    def test_sizes(self):
        for size in (0, -1, "1", 1.0, (1,), [1], True, False):
            error = failure(BadSize, Shop, [idle], belts={"z": 1, "y": size, "a": 0})
            self.assertIs(error.size, size)
        for size in (1, 2, 10**12, 10**13, None):
            self.assertEqual(Shop([idle], belts={"b": size}).names(), ["b"])

    def test_limits_at_both_ends_and_one_beyond(self):
        for longest in (1, 40):
            self.assertEqual(Shop([idle], longest=longest).longest, longest)
        for most in (1, 2000):
            self.assertEqual(Shop([idle], most=most).most, most)
        for longest in (0, 41, -1, None, "24", 24.0, True, [24]):
            self.assertIs(failure(BadLimit, Shop, [idle], longest=longest).limit, longest)
        for most in (0, 2001, -1, None, "400", 400.0, True, [400]):
            self.assertIs(failure(BadLimit, Shop, [idle], most=most).limit, most)

    def test_the_first_error_in_the_order_of_the_text(self):
        wrong = {"cells": {"A": 1, "b": []}, "belts": {"d": 0}, "longest": 0, "most": 2001}
        self.assertEqual(failure(BadWorks, Shop, [], **wrong).count, 0)
        self.assertEqual(failure(BadName, Shop, [idle], **wrong).name, "A")
        wrong["cells"] = {"b": []}
        self.assertEqual(failure(BadName, Shop, [idle], **{**wrong, "belts": {"d": 0, "D": 1}}).name, "D")
        self.assertEqual(failure(BadValue, Shop, [idle], **wrong).value, [])
        wrong["cells"] = {"b": 1}
        self.assertEqual(failure(BadSize, Shop, [idle], **wrong).size, 0)
        wrong["belts"] = None
        self.assertEqual(failure(BadLimit, Shop, [idle], **wrong).limit, 0)
        wrong["longest"] = 1
        self.assertEqual(failure(BadLimit, Shop, [idle], **wrong).limit, 2001)

    def test_works_are_not_run_by_a_shop(self):
        def wrong(hand):
            raise AssertionError

        self.assertEqual(Shop([wrong]).beside(Shop([wrong])).many, 2)


class Beside(unittest.TestCase):
    def setUp(self):
        def tell(hand):
            hand.say(hand.me)
            return hand.look("x")

        self.tell = tell
        self.one = Shop([tell, doing(("put", "x", 3))], cells={"x": 1}, locks=["l"], longest=3, most=5)
        self.other = Shop([doing(("lay", "b", 1)), lambda hand: hand.me], belts={"b": 1, "a": None}, cells={"y": 2})

    def test_the_works_of_other_stand_behind_the_own_ones(self):
        both = self.one.beside(self.other)
        self.assertEqual(both.many, 4)
        run = Run(both)
        self.assertEqual([run.wish(k) for k in range(4)], [("look", "x"), ("put", "x", 3), ("lay", "b", 1), None])
        self.assertEqual(run.ends()[3], ("told", 3))
        self.assertEqual(run.said(0), (0,))

    def test_numbers_are_those_of_the_new_shop(self):
        run = Run(self.other.beside(self.one))
        self.assertEqual(run.ends()[1], ("told", 1))
        self.assertEqual(run.said(2), (2,))

    def test_the_things_of_both(self):
        both = self.one.beside(self.other)
        self.assertEqual(both.names(), ["a", "b", "l", "x", "y"])
        outcome = Run(both).outcome()
        self.assertEqual(outcome[1:4], ((("x", 1), ("y", 2)), (("l", None),), (("a", ()), ("b", ()))))

    def test_limits_are_not_those_of_either(self):
        both = self.one.beside(self.other)
        self.assertEqual((both.longest, both.most), (24, 400))
        both = self.one.beside(most=2000, other=self.other, longest=40)
        self.assertEqual((both.longest, both.most), (40, 2000))

    def test_both_shops_are_as_they_were(self):
        before = seen(Run(self.one)), seen(Run(self.other)), self.one.names(), self.other.names()
        self.one.beside(self.other)
        self.assertEqual((seen(Run(self.one)), seen(Run(self.other)), self.one.names(), self.other.names()), before)
        self.assertEqual((self.one.many, self.other.many, self.one.longest, self.one.most), (2, 2, 3, 5))

    def test_things_are_as_they_were_handed_in_after_runs(self):
        ahead = seen(Run(self.one.beside(self.other)))
        for shop in (self.one, self.other):
            for run in all_runs(shop, Run(shop)):
                self.assertIsNotNone(run)
        self.assertEqual(seen(Run(self.one.beside(self.other))), ahead)

    def test_belts_keep_their_sizes(self):
        lays = doing(("lay", "a", 1), ("lay", "a", 2))
        one, other = Shop([lays], belts={"a": 1}), Shop([idle], belts={"b": None})
        self.assertEqual(replay(one.beside(other), (0,)).can(), [])
        self.assertEqual(replay(other.beside(one), (1,)).can(), [])

    def test_beside_itself_without_things(self):
        shop = Shop([lambda hand: hand.me, lambda hand: hand.rest()])
        self.assertEqual(Run(shop.beside(shop)).ends(), (("told", 0), None, ("told", 2), None))

    def test_too_many_works(self):
        three, two = Shop([idle] * 3), Shop([idle] * 2)
        self.assertEqual(failure(BadWorks, three.beside, two).count, 5)
        self.assertEqual(failure(BadWorks, three.beside, three).count, 6)
        self.assertEqual(two.beside(two).many, 4)
        self.assertEqual(three.beside(Shop([idle])).many, 4)

    def test_the_least_name_that_both_have(self):
        one = Shop([idle], cells={"z": 1, "c": 1}, locks=["b", "a"], belts={"q": 1})
        self.assertEqual(failure(BadName, one.beside, one).name, "a")
        other = Shop([idle], cells={"d": 1}, locks=["z", "c"], belts={"q": 1})
        self.assertEqual(failure(BadName, one.beside, other).name, "c")
        self.assertEqual(failure(BadName, other.beside, one).name, "c")
        self.assertEqual(failure(BadName, one.beside, Shop([idle], belts={"b": 2})).name, "b")

    def test_limits_are_refused(self):
        for limit in (0, 41, True, None):
            self.assertIs(failure(BadLimit, self.one.beside, self.other, longest=limit).limit, limit)
        for limit in (0, 2001, False, None):
            self.assertIs(failure(BadLimit, self.one.beside, self.other, most=limit).limit, limit)

    def test_the_first_error_in_the_order_of_the_text(self):
        three = Shop([idle] * 3, locks=["a"])
        self.assertEqual(failure(BadWorks, three.beside, three, longest=0, most=0).count, 6)
        one = Shop([idle], locks=["a"])
        self.assertEqual(failure(BadName, one.beside, three, longest=0, most=0).name, "a")
        self.assertEqual(failure(BadLimit, one.beside, Shop([idle]), longest=41, most=0).limit, 41)
        self.assertEqual(failure(BadLimit, one.beside, Shop([idle]), longest=40, most=0).limit, 0)


if __name__ == "__main__":
    unittest.main()
