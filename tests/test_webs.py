"""Webs: [24] to [30], and what [3], [19] and [25] say of them."""

import unittest

from helpers import doing, failure, idle
from turnways.errors import BadStretch, BadValue, CanNot, NoMoment, NoStep, NoWork
from turnways.runs import Run, replay
from turnways.shops import Shop
from turnways.webs import Web

CELLS = {"x": 0, "y": 0}


def count(hand):
    number = hand.look("n")
    hand.put("n", number + 1)


def counting(many=2):
    return Shop([count] * many, cells={"n": 0})


def web_of(turns, *works, **things):
    """The web of these turns of works that are rows of wishes."""
    return Web.of(Shop([doing(*row) for row in works], **things), turns)


def first_steps_touch(one, other, **things):
    """Whether of two works with one wish each the first step is before the second."""
    return web_of((0, 1), [one], [other], **things).before((0, 0), (1, 0))


class Touch(unittest.TestCase):
    def test_looks_do_not_touch(self):
        looks = [("look", "x"), ("until", "x", 0)]
        for one in looks:
            for other in looks:
                self.assertIs(first_steps_touch(one, other, cells=CELLS), False)

    def test_all_else_over_a_cell_touches(self):
        looks = [("look", "x"), ("until", "x", 0)]
        others = [("put", "x", 0), ("swap", "x", 0), ("trade", "x", 0, 0), ("trade", "x", 5, 6)]
        for one in looks + others:
            for other in others:
                self.assertIs(first_steps_touch(one, other, cells=CELLS), True)
                self.assertIs(first_steps_touch(other, one, cells=CELLS), True)

    def test_trades_that_answer_false_are_no_looks(self):
        web = web_of((0, 1), [("trade", "x", 5, 6)], [("trade", "x", 5, 6)], cells=CELLS)
        self.assertEqual([answer for *_, answer in web.steps()], [False, False])
        self.assertIs(web.before((0, 0), (1, 0)), True)

    def test_reaches_that_answer_false_are_no_looks(self):
        web = web_of((0, 1, 2), [("take", "a")], [("reach", "a")], [("reach", "a")], locks=("a",))
        self.assertEqual([answer for *_, answer in web.steps()], [None, False, False])
        self.assertIs(web.before((1, 0), (2, 0)), True)
        self.assertIs(web.before((0, 0), (1, 0)), True)

    def test_locks_and_belts(self):
        self.assertIs(first_steps_touch(("take", "a"), ("reach", "a"), locks=("a",)), True)
        web = web_of((0, 0, 1), [("take", "a"), ("give", "a")], [("take", "a")], locks=("a",))
        self.assertIs(web.before((0, 1), (1, 0)), True)
        for one, other in ((("lay", "p", 1), ("lay", "p", 2)), (("lay", "p", 1), ("fetch", "p"))):
            self.assertIs(first_steps_touch(one, other, belts={"p": None}), True)
        web = web_of((0, 0, 1, 2), [("lay", "p", 1), ("lay", "p", 2)], [("fetch", "p")], [("fetch", "p")],
                     belts={"p": None})
        self.assertIs(web.before((1, 0), (2, 0)), True)

    def test_different_things_and_rest(self):
        self.assertIs(first_steps_touch(("put", "x", 1), ("put", "y", 1), cells=CELLS), False)
        self.assertIs(first_steps_touch(("take", "a"), ("take", "b"), locks=("a", "b")), False)
        self.assertIs(first_steps_touch(("rest",), ("rest",)), False)
        self.assertIs(first_steps_touch(("rest",), ("put", "x", 1), cells=CELLS), False)
        self.assertIs(first_steps_touch(("put", "x", 1), ("rest",), cells=CELLS), False)

    def test_a_value_is_no_name(self):
        cells = {"x": 0, "y": 0}
        self.assertIs(first_steps_touch(("put", "x", "y"), ("put", "y", "x"), cells=cells), False)


class Before(unittest.TestCase):
    def test_steps_of_one_work(self):
        web = web_of((0, 0, 0), [("rest",), ("rest",), ("look", "x")], cells=CELLS)
        self.assertIs(web.before((0, 0), (0, 1)), True)
        self.assertIs(web.before((0, 0), (0, 2)), True)
        self.assertIs(web.before((0, 1), (0, 0)), False)
        self.assertIs(web.before((0, 1), (0, 1)), False)

    def test_through_a_third_step(self):
        web = web_of((0, 1, 1, 2), [("put", "x", 1)], [("look", "x"), ("put", "y", 1)], [("look", "y")], cells=CELLS)
        self.assertIs(web.before((0, 0), (2, 0)), True)
        self.assertIs(web.before((2, 0), (0, 0)), False)
        self.assertIs(web.before((0, 0), (1, 1)), True)

    def test_through_a_third_step_of_another_work(self):
        web = web_of((0, 1, 2), [("look", "x")], [("put", "x", 1)], [("look", "x")], cells=CELLS)
        self.assertIs(web.before((0, 0), (2, 0)), True)

    def test_what_is_done_later_is_not_before(self):
        web = web_of((1, 0), [("put", "x", 1)], [("put", "x", 2)], cells=CELLS)
        self.assertIs(web.before((1, 0), (0, 0)), True)
        self.assertIs(web.before((0, 0), (1, 0)), False)

    def test_no_step_of_the_web(self):
        web = Web.of(counting(), (0, 1, 0))
        wrong = [(1, 1), (0, 2), (2, 0), (-1, 0), (0, -1), [0, 0], (0,), (0, 0, 0), (False, 0), (0, True), 0, None, "ab",
                 ("a", "b"), ((0, 0), 0), (None, None), ()]
        for given in wrong:
            self.assertEqual(failure(NoStep, web.before, given, (0, 0)).step, given)
            self.assertEqual(failure(NoStep, web.before, (0, 0), given).step, given)
        self.assertIs(failure(NoStep, web.before, (0, True), (0, 0)).step[1], True)

    def test_the_first_argument_comes_first(self):
        web = Web.of(counting(), (0, 1, 0))
        self.assertEqual(failure(NoStep, web.before, (7, 7), (8, 8)).step, (7, 7))
        self.assertEqual(failure(NoStep, web.before, other=(8, 8), one=(7, 7)).step, (7, 7))
        self.assertIs(web.before(other=(0, 1), one=(0, 0)), True)


class Made(unittest.TestCase):
    def test_of_is_static_and_takes_lists(self):
        shop = counting()
        turns = [1, 0, 0, 1]
        web = Web.of(turns=turns, shop=shop)
        self.assertEqual(turns, [1, 0, 0, 1])
        turns.clear()
        self.assertEqual(web.turns(), (0, 1, 0, 1))
        self.assertTrue(web == Web.of(shop, (0, 1, 0, 1)))
        self.assertTrue(web == web.of(shop, (1, 0, 0, 1)))

    def test_runs_that_are_not_over_and_no_turns(self):
        shop = counting()
        none = Web.of(shop, ())
        self.assertEqual(none.turns(), ())
        self.assertEqual(none.steps(), [])
        self.assertEqual(none.links(), [])
        self.assertEqual(none.layers(), [])
        self.assertEqual(none.moments(), [(0, 0)])
        self.assertEqual(none.outcome_at((0, 0)), Run(shop).outcome())
        self.assertEqual(none.orders(), 1)
        self.assertEqual(none.serial(), [0, 1])
        self.assertIsNone(none.ring())
        self.assertIs(none.unbroken(0, 0, 5), True)
        self.assertIs(none.has(()), True)
        self.assertIs(none.has([]), True)
        self.assertIs(none.has((0,)), False)
        half = Web.of(shop, (1, 0))
        self.assertEqual(half.turns(), (0, 1))
        self.assertEqual(half.orders(), 2)
        self.assertIs(half.has((1, 0)), True)
        self.assertEqual(half.moments(), [(0, 0), (0, 1), (1, 0), (1, 1)])

    def test_errors_of_replay_in_their_order(self):
        shop = counting()
        self.assertEqual(failure(NoWork, Web.of, shop, (0, 2, 0)).number, 2)
        self.assertEqual(failure(CanNot, Web.of, shop, (0, 0, 0, 5)).number, 0)
        self.assertEqual(failure(NoWork, Web.of, shop, (5, 0, 0, 0)).number, 5)
        self.assertIs(failure(NoWork, Web.of, shop, (0, True)).number, True)
        self.assertIsNone(failure(NoWork, Web.of, shop, [None]).number)

    def test_errors_of_works_go_on(self):
        def raising(hand):
            hand.rest()
            raise KeyError("own")

        def telling(hand):
            hand.rest()
            return [1]

        failure(KeyError, Web.of, Shop([raising]), (0,))
        self.assertEqual(Web.of(Shop([raising]), ()).turns(), ())
        self.assertEqual(failure(BadValue, Web.of, Shop([idle, telling]), (1,)).value, [1])

    def test_forty_turns(self):
        def resting(hand):
            for _ in range(10):
                hand.rest()

        web = Web.of(Shop([resting] * 4), (3, 2, 1, 0) * 10)
        self.assertEqual(web.turns(), (0,) * 10 + (1,) * 10 + (2,) * 10 + (3,) * 10)
        self.assertEqual(web.orders(), 4705360871073570227520)
        self.assertEqual(len(web.moments()), 11 ** 4)
        self.assertIs(web.has((0, 1, 2, 3) * 10), True)
        self.assertEqual(web.outcome_at((10, 10, 10, 10))[0], (("told", None),) * 4)


class Equal(unittest.TestCase):
    def test_webs_of_one_shop(self):
        shop = counting()
        one = Web.of(shop, (0, 1, 0, 1))
        for turns, alike in (((1, 0, 0, 1), True), ((0, 1, 1, 0), False), ((0, 1, 0), False), ((0, 1), False)):
            self.assertIs(one == Web.of(shop, turns), alike)
            self.assertIs(one != Web.of(shop, turns), not alike)

    def test_shops_made_alike_are_unlike(self):
        one, other = counting(), counting()
        self.assertIs(Web.of(one, (0, 0)) == Web.of(other, (0, 0)), False)
        self.assertIs(Web.of(one, (0, 0)) != Web.of(other, (0, 0)), True)
        self.assertIs(Web.of(one, ()) == Web.of(other, ()), False)

    def test_what_is_no_web(self):
        shop = counting()
        web = Web.of(shop, ())
        for other in ((), [], None, 0, "", shop, Run(shop), web.steps(), web.turns(), Web):
            self.assertIs(web == other, False)
            self.assertIs(other == web, False)
            self.assertIs(web != other, True)
            self.assertIs(other != web, True)

    def test_steps_alike_in_another_before_are_unlike(self):
        shop = Shop([doing(("put", "x", 1)), doing(("put", "x", 1))], cells=CELLS)
        self.assertIs(Web.of(shop, (0, 1)) == Web.of(shop, (1, 0)), False)


class Has(unittest.TestCase):
    def setUp(self):
        self.web = Web.of(counting(), (0, 1, 0, 1))

    def test_orders(self):
        for turns in ((0, 1, 0, 1), (1, 0, 0, 1), [0, 1, 0, 1], [1, 0, 0, 1]):
            self.assertIs(self.web.has(turns), True)
        self.assertIs(self.web.has(turns=(1, 0, 0, 1)), True)
        self.assertEqual(self.web.orders(), 2)

    def test_other_turns(self):
        for turns in ((0, 0, 1, 1), (0, 1, 1, 0), (1, 1, 0, 0), (0, 1, 0), (), (0, 1, 0, 1, 1), (0, 1, 0, 1, 0)):
            self.assertIs(self.web.has(turns), False)

    def test_no_numbers_from_behind(self):
        web = web_of((1,), [], [("rest",)])
        self.assertIs(web.has((1,)), True)
        self.assertIs(web.has((-1,)), False)
        self.assertIs(web.has((2,)), False)

    def test_any_object(self):
        wrong = [None, 5, "0101", {0: 1}, {0, 1}, b"\x00\x01\x00\x01", object(), (False, True, False, True),
                 (0, True, 0, 1), [0, 1, 0, True], (0, 1, 0, None), (0, 1, 0, 2), (0, 1, 0, -1), ((0, 1), (0, 1)),
                 (0, 1, 0, [1]), ("0", "1", "0", "1"), (0, 1, 0, 1.0), self.web, range(2)]
        for given in wrong:
            self.assertIs(self.web.has(given), False)


class Told(unittest.TestCase):
    def test_steps_in_the_order_of_the_least_turns(self):
        web = Web.of(counting(), (1, 0, 0, 1))
        self.assertEqual(web.steps(), [
            (0, 0, ("look", "n"), 0), (1, 0, ("look", "n"), 0), (0, 1, ("put", "n", 1), None),
            (1, 1, ("put", "n", 1), None)])

    def test_links_pass_over_nothing(self):
        web = web_of((0, 1, 1, 2), [("put", "x", 1)], [("look", "x"), ("put", "x", 2)], [("look", "x")], cells=CELLS)
        self.assertEqual(web.links(), [((0, 0), (1, 0)), ((1, 1), (2, 0))])

    def test_links_ascend(self):
        web = web_of((1, 1, 0, 0), [("put", "x", 1), ("put", "y", 1)], [("look", "x"), ("look", "y")], cells=CELLS)
        self.assertEqual(web.links(), [((1, 0), (0, 0)), ((1, 1), (0, 1))])
        web = web_of((0, 1, 2), [("put", "x", 1)], [("look", "x")], [("look", "x")], cells=CELLS)
        self.assertEqual(web.links(), [((0, 0), (1, 0)), ((0, 0), (2, 0))])

    def test_layers(self):
        web = web_of((0, 1, 1, 2, 2), [("put", "x", 1)], [("rest",), ("look", "x")], [("rest",), ("rest",)], cells=CELLS)
        self.assertEqual(web.layers(), [[(0, 0), (1, 0), (2, 0)], [(1, 1), (2, 1)]])
        web = web_of((1, 1, 0), [("put", "x", 1)], [("rest",), ("look", "x")], cells=CELLS)
        self.assertEqual(web.layers(), [[(1, 0)], [(1, 1)], [(0, 0)]])

    def test_a_layer_behind_the_last_one_not_behind_the_first(self):
        web = web_of((0, 1, 1, 1, 0), [("put", "x", 1), ("put", "y", 1)], [("rest",), ("rest",), ("look", "y")],
                     cells=CELLS)
        self.assertEqual(web.layers(), [[(0, 0), (1, 0)], [(1, 1)], [(1, 2)], [(0, 1)]])

    def test_lists_are_new_at_all_depths(self):
        web = Web.of(counting(), (0, 1, 1, 0))
        for ask in (web.steps, web.links, web.layers, web.moments, web.ring):
            told = ask()
            again = ask()
            for inner in told:
                if isinstance(inner, list):
                    inner.append("changed")
            told.append("changed")
            self.assertEqual(ask(), again)
        line = Web.of(counting(), (0, 0))
        line.serial().append(5)
        self.assertEqual(line.serial(), [0, 1])


class Moments(unittest.TestCase):
    def test_all_of_them_ascending(self):
        web = Web.of(counting(), (1, 0, 0, 1))
        self.assertEqual(web.moments(), [(0, 0), (0, 1), (1, 0), (1, 1), (2, 1), (2, 2)])

    def test_works_without_steps_count(self):
        web = Web.of(counting(3), (2, 2))
        self.assertEqual(web.moments(), [(0, 0, 0), (0, 0, 1), (0, 0, 2)])

    def test_outcomes_at_each(self):
        shop = counting()
        web = Web.of(shop, (1, 0, 0, 1))
        turns = {(0, 0): (), (0, 1): (1,), (1, 0): (0,), (1, 1): (1, 0), (2, 1): (0, 1, 0), (2, 2): (0, 1, 0, 1)}
        for moment in web.moments():
            self.assertEqual(web.outcome_at(moment), replay(shop, turns[moment]).outcome())
        self.assertEqual(web.outcome_at(moment=(2, 1)), replay(shop, (0, 1, 0)).outcome())

    def test_a_first_step_needs_those_before_it(self):
        web = web_of((0, 1), [("put", "x", 1)], [("look", "x")], cells=CELLS)
        self.assertEqual(web.moments(), [(0, 0), (1, 0), (1, 1)])
        self.assertEqual(failure(NoMoment, web.outcome_at, (0, 1)).moment, (0, 1))

    def test_no_moments(self):
        web = Web.of(counting(), (1, 0, 0, 1))
        wrong = [[0, 0], (0,), (0, 0, 0), (), (False, 0), (0, True), (1, 2), (0, 2), (2, 0), (3, 2), (2, 3), (-1, 0), (0, -1),
                 None, 5, "ab", ("a", "b"), ((0, 0), 0), (0, None), (10 ** 11, 0), {0: 0, 1: 0}, (1.0, 0), ([], 0)]
        for given in wrong:
            self.assertEqual(failure(NoMoment, web.outcome_at, given).moment, given)
        self.assertIs(failure(NoMoment, web.outcome_at, (0, True)).moment[1], True)


class Lines(unittest.TestCase):
    def test_serial_is_the_least_of_all_lines(self):
        shop = Shop([doing(("put", "x", 1)), doing(("put", "y", 1)), doing(("look", "x"))], cells=CELLS)
        self.assertEqual(Web.of(shop, (2, 1, 0)).serial(), [1, 2, 0])
        self.assertEqual(Web.of(shop, (0, 1, 2)).serial(), [0, 1, 2])
        self.assertEqual(Web.of(shop, (2,)).serial(), [0, 1, 2])

    def test_no_serial_order_of_two(self):
        web = Web.of(counting(), (0, 1, 0, 1))
        self.assertIsNone(web.serial())
        self.assertEqual(sorted(web.ring()), [0, 1])
        self.assertEqual(web.ring(), Web.of(counting(), (1, 0, 0, 1)).ring())

    def ring_of_many(self, many):
        """Works in a ring: each looks at a cell of its own, then the one behind it in the ring puts there."""
        names = "abcd"[:many]
        works = [doing(("look", names[k]), ("put", names[(k + 1) % many], 1)) for k in range(many)]
        shop = Shop(works, cells={name: 0 for name in names})
        return Web.of(shop, (*range(many), *range(many)))

    def test_rings_of_three_and_four(self):
        for many in (3, 4):
            web = self.ring_of_many(many)
            self.assertIsNone(web.serial())
            ring = web.ring()
            self.assertEqual(sorted(ring), list(range(many)))
            for k, j in zip(ring, ring[1:] + ring[:1]):
                self.assertTrue(any(web.before((k, i), (j, m)) for i in range(2) for m in range(2)))
            self.assertEqual(ring, self.ring_of_many(many).ring())

    def test_a_ring_beside_works_that_lie_on_none(self):
        shop = Shop([doing(("look", "n")), count, count, doing(("put", "n", 0))], cells={"n": 0})
        web = Web.of(shop, (0, 1, 2, 1, 2, 3))
        self.assertIsNone(web.serial())
        self.assertEqual(sorted(web.ring()), [1, 2])
        web = Web.of(shop, (3, 1, 2, 1, 2, 0))
        self.assertEqual(sorted(web.ring()), [1, 2])

    def test_no_ring_beside_a_serial_order(self):
        self.assertIsNone(Web.of(counting(), (0, 0, 1, 1)).ring())
        self.assertEqual(Web.of(counting(), (1, 1, 0, 0)).serial(), [1, 0])
        self.assertEqual(Web.of(Shop([count], cells={"n": 0}), (0, 0)).serial(), [0])


class Unbroken(unittest.TestCase):
    def test_within_and_beyond_the_steps(self):
        web = Web.of(counting(), (0, 1, 1, 0))
        self.assertIs(web.unbroken(0, 0, 1), False)
        self.assertIs(web.unbroken(0, 0, 10 ** 11), False)
        self.assertIs(web.unbroken(1, 0, 1), True)
        self.assertIs(web.unbroken(1, 0, 9), True)
        self.assertIs(web.unbroken(0, 0, 0), True)
        self.assertIs(web.unbroken(0, 1, 1), True)
        self.assertIs(web.unbroken(0, 1, 7), True)
        self.assertIs(web.unbroken(0, 2, 7), True)
        self.assertIs(web.unbroken(last=1, first=0, k=0), False)

    def test_another_order_counts(self):
        web = Web.of(counting(), (0, 1, 0, 1))
        self.assertIs(web.unbroken(0, 0, 1), True)
        self.assertIs(web.unbroken(1, 0, 1), False)

    def test_one_step_between_others_of_many(self):
        web = web_of((0, 0, 1, 0, 0), [("rest",), ("put", "x", 1), ("look", "x"), ("rest",)], [("swap", "x", 5)],
                     cells=CELLS)
        for first in range(4):
            for last in range(first, 4):
                self.assertIs(web.unbroken(0, first, last), not (first <= 1 and last >= 2))

    def test_bad_stretches(self):
        web = Web.of(counting(), (0, 1, 1, 0))
        wrong = [(2, 0, 1), (-1, 0, 1), (True, 0, 1), (0, 1, 0), (0, -1, 0), (0, -2, -1), (0, False, 1), (0, 0, True),
                 (None, 0, 1), (0, None, 1), (0, 0, None), ("a", 0, 1), (0, "a", "b"), ((), 0, 1), (0, [], 1)]
        for given in wrong:
            stretch = failure(BadStretch, web.unbroken, *given).stretch
            self.assertEqual(repr(stretch), repr(given))
        self.assertEqual(failure(BadStretch, web.unbroken, last=0, first=1, k=0).stretch, (0, 1, 0))


if __name__ == "__main__":
    unittest.main()
