"""What must agree, the example, and the promise of the whole: [46] to [51], and [2]."""

import itertools
import math
import time
import unittest

from brute import AllRuns, kinded
from helpers import doing, failure
from pools import small_shops
from turnways.asks import (beginnings, every, fewest_changes, first, orders, outcomes, some, sometimes, unavoidable,
                           ways, webs)
from turnways.errors import Beyond
from turnways.repairs import are_all, deciding, kept, least_stretches
from turnways.runs import replay
from turnways.shops import Shop
from turnways.stills import clashes, not_serial, ring_of, standstills
from turnways.webs import Web


def count(hand):
    number = hand.look("n")
    hand.put("n", number + 1)


def bumping(cell):
    def work(hand):
        hand.put(cell, hand.look(cell) + 1)

    return work


def locked(lock, *wishes):
    """A work that makes its wishes with a lock held."""
    return doing(("take", lock), *wishes, ("give", lock))


class Example(unittest.TestCase):
    def setUp(self):
        self.shop = Shop([count, count], cells={"n": 0})

    def test_turns_and_webs(self):
        self.assertEqual(orders(self.shop), 6)
        self.assertEqual(ways(self.shop), [(0, 0, 1, 1), (0, 1, 0, 1), (0, 1, 1, 0), (1, 1, 0, 0)])
        self.assertEqual(len(webs(self.shop)), 4)
        self.assertEqual(Web.of(self.shop, (1, 0, 0, 1)), Web.of(self.shop, (0, 1, 0, 1)))

    def test_what_is_lost(self):
        def lost(outcome):
            return dict(outcome[1])["n"] == 1

        self.assertEqual([lost(web.outcome_at((2, 2))) for web in webs(self.shop)], [False, True, True, False])
        self.assertEqual(deciding(self.shop, lost), [])
        self.assertEqual(least_stretches(self.shop, [(0, 0, 1), (1, 0, 1)], lost), [[0, 1]])

    def test_clashes(self):
        self.assertEqual(clashes(self.shop)[0], ((0,), 0, ("put", "n", 1), 1, ("look", "n")))


class Sums(unittest.TestCase):
    def test_orders_of_the_webs_are_all_orders(self):
        for shop in small_shops()[:150] + [Shop([count] * 3, cells={"n": 0})]:
            self.assertEqual(sum([web.orders() for web in webs(shop)]), orders(shop))

    def test_each_run_is_an_order_of_one_web_and_leads_to_one_outcome(self):
        for shop in small_shops()[::4]:
            told = webs(shop)
            known = [kinded(outcome) for outcome, _ in outcomes(shop)]
            for turns in AllRuns(shop).over:
                self.assertEqual(sum([web.has(turns) for web in told]), 1)
                self.assertEqual(known.count(kinded(replay(shop, turns).outcome())), 1)


class Beside(unittest.TestCase):
    def pairs(self):
        looking = Shop([doing(("look", "y")), doing(("put", "y", 1))], cells={"y": 0})
        locks = Shop([doing(("take", "a")), doing(("take", "a"), ("give", "a"))], locks=("a",))
        belt = Shop([doing(("fetch", "p")), doing(("lay", "p", 1), ("lay", "p", 2))], belts={"p": 1})
        one = Shop([doing(("swap", "z", 1), ("look", "z"))], cells={"z": 0})
        two = Shop([bumping("n"), bumping("n")], cells={"n": 0})
        three = Shop([bumping("n"), doing(("look", "n")), doing(("rest",))], cells={"n": 0})
        return [(two, looking), (looking, locks), (locks, two), (belt, looking), (locks, belt), (one, three), (three, one),
                (one, two), (one, looking)]

    def parted(self, outcome, many, names):
        """The outcomes of the two shops in one of both, the works of the other one counted from 0."""
        ends, cells, locks, belts, words = outcome
        own = (ends[:many], *[tuple([pair for pair in pairs if pair[0] in names]) for pairs in (cells, locks, belts)],
               words[:many])
        cells, locks, belts = [tuple([pair for pair in pairs if pair[0] not in names]) for pairs in (cells, locks, belts)]
        locks = tuple([(name, None if holder is None else holder - many) for name, holder in locks])
        return own, (ends[many:], cells, locks, belts, words[many:])

    def test_products(self):
        for one, other in self.pairs():
            both = one.beside(other, longest=40, most=2000)
            self.assertEqual(len(webs(both)), len(webs(one)) * len(webs(other)))
            self.assertEqual(beginnings(both), beginnings(one) * beginnings(other))

    def test_outcomes(self):
        for one, other in self.pairs():
            own = [kinded(outcome) for outcome, _ in outcomes(one)]
            others = [kinded(outcome) for outcome, _ in outcomes(other)]
            both = outcomes(one.beside(other, longest=40, most=2000))
            for outcome, _ in both:
                left, right = self.parted(outcome, one.many, one.names())
                self.assertIn(kinded(left), own)
                self.assertIn(kinded(right), others)
            self.assertEqual(len(both), len(own) * len(others))


class Locked(unittest.TestCase):
    def test_works_within_one_lock_come_one_behind_the_other(self):
        rows = [[("put", "x", 1), ("look", "y")], [("look", "x"), ("put", "y", 2)], [("swap", "x", 3)], [("rest",)]]
        for many in (1, 2, 3, 4):
            works = [locked("a", *row) for row in rows[:many]]
            shop = Shop(works, cells={"x": 0, "y": 0}, locks=("a",), most=2000)
            told = webs(shop)
            self.assertEqual(len(told), math.factorial(many))
            self.assertEqual(sorted([web.serial() for web in told]),
                             sorted([list(line) for line in itertools.permutations(range(many))]))
            self.assertEqual([web.ring() for web in told], [None] * len(told))
            self.assertEqual(standstills(shop), [])
            self.assertIsNone(not_serial(shop))

    def test_locks_taken_in_one_order(self):
        rows = [[("take", "a"), ("take", "b"), ("give", "a"), ("give", "b")],
                [("take", "b"), ("take", "c"), ("give", "b"), ("give", "c")],
                [("take", "a"), ("take", "c"), ("give", "c"), ("give", "a")]]
        for one, other in itertools.combinations_with_replacement(rows, 2):
            shop = Shop([doing(*one), doing(*other)], locks=("a", "b", "c"), most=2000)
            self.assertEqual(standstills(shop), [])
            self.assertEqual([ring_of(replay(shop, turns)) for turns in ways(shop)], [None] * len(ways(shop)))
        shop = Shop([doing(*row) for row in rows], locks=("a", "b", "c"), most=2000)
        self.assertEqual(standstills(shop), [])

        def reaching(hand):
            if hand.reach("a"):
                hand.take("b")
                hand.give("b")
                hand.give("a")

        shop = Shop([reaching, reaching, doing(*rows[0])], locks=("a", "b"), most=2000)
        self.assertEqual(standstills(shop), [])

    def test_locks_taken_the_other_way_round(self):
        shop = Shop([doing(("take", "a"), ("take", "b")), doing(("take", "b"), ("take", "a"))], locks=("a", "b"))
        self.assertIn(((("take", "b"), ("take", "a")), (0, 1)), standstills(shop))

    def test_whole_works_are_unbroken_in_serial_webs(self):
        for shop in small_shops()[:150]:
            for web in webs(shop):
                if web.serial() is not None:
                    for k in range(shop.many):
                        self.assertIs(web.unbroken(k, 0, 40), True)


class Whole(unittest.TestCase):
    """[2]: what is decided for all turns, with turns that show it."""

    def test_a_bank(self):
        def moving(source, target):
            def work(hand):
                money = hand.look(source)
                hand.put(source, money - 1)
                hand.put(target, hand.look(target) + 1)

            return work

        shop = Shop([moving("x", "y"), moving("y", "x")], cells={"x": 5, "y": 5}, most=2000)

        def is_whole(outcome):
            return dict(outcome[1])["x"] + dict(outcome[1])["y"] == 10

        self.assertIs(every(shop, is_whole), False)
        turns = first(shop, lambda outcome: not is_whole(outcome))
        self.assertIs(is_whole(replay(shop, turns).outcome()), False)
        changes, turns = fewest_changes(shop, lambda outcome: not is_whole(outcome))
        self.assertIs(is_whole(replay(shop, turns).outcome()), False)
        self.assertEqual(sum([one != other for one, other in zip(turns, turns[1:])]), changes)
        self.assertIs(some(shop, is_whole), True)
        whole = [(0, 0, 3), (1, 0, 3)]
        self.assertEqual(least_stretches(shop, whole, lambda outcome: not is_whole(outcome)), [[0, 1]])
        self.assertTrue(all([is_whole(replay(shop, turns).outcome()) for turns in kept(shop, whole)]))
        self.assertTrue(are_all(shop, ways(shop)))
        self.assertIsNotNone(not_serial(shop))
        self.assertIsNone(unavoidable(shop, lambda outcome: not is_whole(outcome)))
        self.assertEqual(sometimes(shop, lambda outcome: not is_whole(outcome)), (0, 0))


def resting(times):
    return doing(*[("rest",)] * times)


class Limits(unittest.TestCase):
    """Shops at the limits, each asked all there is to ask."""

    def all_answers(self, shop):
        started = time.perf_counter()
        stretches = [(0, 0, 3), (0, 2, 5), (1, 0, 4), (1, 3, 9)]

        def parted(outcome):
            return len(repr(outcome)) % 2 == 0

        for call in (ways, webs, orders, beginnings, outcomes, standstills, clashes, not_serial):
            call(shop)
        for call in (every, some, first, sometimes, unavoidable, fewest_changes, deciding):
            call(shop, parted)
            call(shop, lambda outcome: False)
        are_all(shop, ways(shop))
        kept(shop, stretches)
        least_stretches(shop, stretches, parted)
        least_stretches(shop, stretches, lambda outcome: True)
        for web in webs(shop)[:5]:
            web.moments()
            web.orders()
            web.links()
            web.layers()
        self.assertLess(time.perf_counter() - started, 60)

    def test_many_beginnings(self):
        wide = Shop([resting(5), resting(5), resting(5), resting(8)], longest=40, most=2000)
        self.assertEqual(beginnings(wide), 6 * 6 * 6 * 9)
        self.assertEqual(ways(wide), [(0,) * 5 + (1,) * 5 + (2,) * 5 + (3,) * 8])
        self.all_answers(wide)
        long = Shop([resting(20), resting(20)], longest=40, most=2000)
        self.assertEqual(beginnings(long), 441)
        self.all_answers(long)
        self.all_answers(Shop([resting(5), resting(5), resting(5), resting(0)]))

    def test_many_webs(self):
        putting = doing(*[("put", "n", at) for at in range(4)])
        shop = Shop([putting, putting, resting(3)], cells={"n": 0}, longest=40, most=2000)
        self.assertEqual(len(ways(shop)), 70)
        self.all_answers(shop)
        busy = Shop([count, count, count], cells={"n": 0}, longest=40, most=2000)
        self.all_answers(busy)
        shop = Shop([doing(*[("swap", "n", (k, at)) for at in range(5)]) for k in range(2)], cells={"n": 0}, most=2000)
        self.assertEqual(len(ways(shop)), 252)
        self.all_answers(shop)

    def test_for_ever(self):
        def for_ever(hand):
            while True:
                hand.swap("n", hand.me)

        shop = Shop([for_ever] * 4, cells={"n": 0}, longest=40, most=2000)
        started = time.perf_counter()
        for call in (ways, webs, orders, beginnings, outcomes, standstills, clashes, not_serial):
            failure(Beyond, call, shop)
        self.assertLess(time.perf_counter() - started, 60)


if __name__ == "__main__":
    unittest.main()
