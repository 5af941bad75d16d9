"""Standstills and clashes: [38] to [41]."""

import unittest

from helpers import doing, idle
from turnways.runs import Run, replay
from turnways.shops import Shop
from turnways.stills import clashes, not_serial, ring_of, standstills


def crossing():
    """Two works that take two locks the other way round."""
    return Shop([doing(("take", "a"), ("take", "b"), ("give", "b"), ("give", "a")),
                 doing(("take", "b"), ("take", "a"), ("give", "a"), ("give", "b"))], locks=("a", "b"))


def count(hand):
    number = hand.look("n")
    hand.put("n", number + 1)


class Standstills(unittest.TestCase):
    def test_none(self):
        self.assertEqual(standstills(Shop([count, count], cells={"n": 0})), [])
        self.assertEqual(standstills(Shop([idle])), [])

    def test_two_locks(self):
        self.assertEqual(standstills(crossing()), [((("take", "b"), ("take", "a")), (0, 1))])
        self.assertEqual(standstills(shop=crossing()), standstills(crossing()))

    def test_a_work_at_its_end_has_no_wish(self):
        shop = Shop([doing(("take", "a")), doing(("take", "a"))], locks=("a",))
        self.assertEqual(standstills(shop), [((None, ("take", "a")), (0,)), ((("take", "a"), None), (1,))])

    def test_a_lock_taken_twice(self):
        shop = Shop([doing(("take", "a"), ("take", "a"))], locks=("a",))
        self.assertEqual(standstills(shop), [((("take", "a"),), (0,))])

    def test_at_the_very_beginning(self):
        shop = Shop([doing(("fetch", "p")), idle], belts={"p": 1})
        self.assertEqual(standstills(shop), [((("fetch", "p"), None), ())])

    def test_the_same_waits_stand_there_once_with_the_least_turns(self):
        def waiting(hand):
            hand.swap("n", hand.me)
            hand.until("n", 5)

        shop = Shop([waiting, waiting], cells={"n": 9})
        self.assertEqual(standstills(shop), [((("until", "n", 5), ("until", "n", 5)), (0, 1))])

    def test_waits_that_are_equal_and_not_the_same_are_two(self):
        for one, other in ((1, True), ((0, (0,)), (0, (False,)))):
            def waiting(hand, one=one, other=other):
                hand.until("n", one if hand.look("m") == 0 else other)

            shop = Shop([waiting, doing(("put", "m", 1))], cells={"n": 9, "m": 0})
            told = standstills(shop)
            self.assertEqual(repr(told), repr([((("until", "n", one), None), (0, 1)),
                                               ((("until", "n", other), None), (1, 0))]))


class RingOf(unittest.TestCase):
    def test_two_works(self):
        shop = crossing()
        self.assertIsNone(ring_of(Run(shop)))
        self.assertIsNone(ring_of(replay(shop, (0,))))
        self.assertEqual(ring_of(replay(shop, (0, 1))), [0, 1])
        self.assertEqual(ring_of(run=replay(shop, (1, 0))), [0, 1])
        self.assertIsNone(ring_of(replay(shop, (0, 0, 0, 0))))

    def test_a_work_alone(self):
        shop = Shop([doing(("rest",), ("rest",)), doing(("take", "a"), ("take", "a"))], locks=("a",))
        run = replay(shop, (1,))
        self.assertFalse(run.is_over())
        self.assertEqual(ring_of(run), [1])

    def test_three_works_and_their_order(self):
        works = [doing(("take", "a"), ("take", "c")), doing(("take", "b"), ("take", "a")),
                 doing(("take", "c"), ("take", "b"))]
        run = replay(Shop(works, locks=("a", "b", "c")), (2, 1, 0))
        self.assertEqual(ring_of(run), [0, 2, 1])

    def test_it_begins_with_its_least_number_and_leaves_out_who_waits_outside(self):
        works = [doing(("take", "b")), doing(("take", "a"), ("take", "b")), doing(("take", "b"), ("take", "a"))]
        run = replay(Shop(works, locks=("a", "b")), (2, 1))
        self.assertEqual(ring_of(run), [1, 2])

    def test_of_several_rings_the_one_with_the_least_first_number(self):
        works = [doing(("take", "a"), ("take", "b")), doing(("take", "c"), ("take", "c")),
                 doing(("rest",)), doing(("take", "b"), ("take", "a"))]
        shop = Shop(works, locks=("a", "b", "c"))
        self.assertEqual(ring_of(replay(shop, (1, 3, 0))), [0, 3])
        self.assertEqual(ring_of(replay(shop, (1, 0))), [1])

    def test_no_ring_without_one(self):
        shop = Shop([doing(("take", "a")), doing(("take", "a"))], locks=("a",))
        self.assertIsNone(ring_of(replay(shop, (0,))))
        shop = Shop([doing(("take", "a"), ("reach", "a")), doing(("until", "n", 5))], locks=("a",), cells={"n": 0})
        self.assertIsNone(ring_of(replay(shop, (0,))))
        shop = Shop([doing(("until", "n", 1)), doing(("until", "n", 2))], cells={"n": 0})
        self.assertIsNone(ring_of(Run(shop)))

    def test_the_run_stays_as_it_was(self):
        run = replay(crossing(), (0, 1))
        ring_of(run).append(5)
        self.assertEqual(ring_of(run), [0, 1])
        self.assertEqual(run.turns(), (0, 1))


class Clashes(unittest.TestCase):
    def test_of_the_counting_works(self):
        look, put = ("look", "n"), ("put", "n", 1)
        shop = Shop([count, count], cells={"n": 0})
        self.assertEqual(clashes(shop), [((0,), 0, put, 1, look), ((1,), 0, look, 1, put), ((0, 1), 0, put, 1, put)])
        self.assertEqual(clashes(shop=shop), clashes(shop))

    def test_none(self):
        self.assertEqual(clashes(Shop([doing(("look", "n"))] * 2, cells={"n": 0})), [])
        self.assertEqual(clashes(Shop([doing(("put", "n", 1)), doing(("put", "m", 1))], cells={"n": 0, "m": 0})), [])
        self.assertEqual(clashes(Shop([doing(("rest",))] * 3)), [])
        self.assertEqual(clashes(Shop([count], cells={"n": 0})), [])

    def test_both_must_be_able_to_go(self):
        shop = Shop([doing(("until", "n", 1)), doing(("put", "n", 1))], cells={"n": 0})
        self.assertEqual(clashes(shop), [])
        shop = Shop([doing(("fetch", "p")), doing(("lay", "p", 1), ("lay", "p", 2))], belts={"p": 1})
        self.assertEqual(clashes(shop), [])
        shop = Shop([doing(("fetch", "p")), doing(("lay", "p", 1), ("lay", "p", 2))], belts={"p": 2})
        self.assertEqual(clashes(shop), [((1,), 0, ("fetch", "p"), 1, ("lay", "p", 2))])

    def test_works_in_order_at_one_beginning(self):
        take = ("take", "a")
        shop = Shop([doing(take)] * 3, locks=("a",))
        self.assertEqual(clashes(shop), [((), 0, take, 1, take), ((), 0, take, 2, take), ((), 1, take, 2, take)])

    def test_the_nearest_beginning_and_the_number_of_turns_first(self):
        works = [doing(("rest",), ("rest",), ("put", "n", 1)), doing(("rest",), ("put", "m", 1)),
                 doing(("look", "n")), doing(("look", "m"))]
        shop = Shop(works, cells={"n": 0, "m": 0})
        self.assertEqual(clashes(shop), [((1,), 1, ("put", "m", 1), 3, ("look", "m")),
                                         ((0, 0), 0, ("put", "n", 1), 2, ("look", "n"))])

    def test_wishes_that_are_equal_and_not_the_same_are_two(self):
        def putting(hand):
            hand.put("n", 1 if hand.look("m") == 0 else True)

        shop = Shop([putting, doing(("put", "m", 1), ("look", "n"))], cells={"n": 9, "m": 0})
        told = [clash for clash in clashes(shop) if clash[2][0] == "put"]
        self.assertEqual(repr(told), repr([((0, 1), 0, ("put", "n", 1), 1, ("look", "n")),
                                           ((1, 0), 0, ("put", "n", True), 1, ("look", "n"))]))


class NotSerial(unittest.TestCase):
    def test_the_first_way(self):
        shop = Shop([count, count], cells={"n": 0})
        self.assertEqual(not_serial(shop), (0, 1, 0, 1))
        self.assertEqual(not_serial(shop=shop), (0, 1, 0, 1))

    def test_none(self):
        self.assertIsNone(not_serial(Shop([doing(("swap", "n", 1))] * 3, cells={"n": 0})))
        self.assertIsNone(not_serial(Shop([idle])))


if __name__ == "__main__":
    unittest.main()
