"""[11] to [16]: cells, locks, belts, rest, say and fail, and what the methods raise."""

import unittest

from helpers import doing, failure, idle, seen
from turnways.errors import BadValue, NoThing, NotHeld, TurnError
from turnways.runs import Run, replay
from turnways.shops import Shop


def alone(*wishes, **things):
    """A run of one work that makes these wishes, gone as far as it can."""
    run = Run(Shop([doing(*wishes)], **things))
    while run.can():
        run.go(0)
    return run


def answers(run):
    return [answer for _, _, answer in run.steps()]


class Me(unittest.TestCase):
    def test_each_hand_has_the_number_of_its_work(self):
        run = Run(Shop([lambda hand: hand.me] * 3))
        self.assertEqual(run.ends(), (("told", 0), ("told", 1), ("told", 2)))

    def test_it_is_the_same_each_time_that_the_work_is_run(self):
        def work(hand):
            told = [hand.me]
            hand.rest()
            told.append(hand.me)
            hand.rest()
            return (*told, hand.me)

        self.assertEqual(replay(Shop([idle, work]), (1, 1)).ends()[1], ("told", (1, 1, 1)))


class Cells(unittest.TestCase):
    def test_look_and_put(self):
        run = alone(("look", "x"), ("put", "x", 2), ("look", "x"), cells={"x": 1, "y": 7})
        self.assertEqual(answers(run), [1, None, 2])
        self.assertEqual((run.cell("x"), run.cell("y")), (2, 7))

    def test_swap_tells_what_was_there(self):
        run = alone(("swap", "x", "new"), ("swap", "x", None), cells={"x": (1, 2)})
        self.assertEqual(answers(run), [(1, 2), "new"])
        self.assertIsNone(run.cell("x"))

    def test_trade(self):
        run = alone(("trade", "x", 5, 6), ("trade", "x", 1, 2), ("trade", "x", 1, 3), cells={"x": 1})
        self.assertEqual(answers(run), [False, True, False])
        self.assertIs(answers(run)[1], True)
        self.assertEqual(run.cell("x"), 2)

    def test_until_waits_and_has_no_answer(self):
        shop = Shop([doing(("until", "x", 2), ("look", "x")), doing(("put", "x", 2), ("put", "x", 3))], cells={"x": 1})
        run = Run(shop)
        self.assertEqual(run.can(), [1])
        run.go(1)
        self.assertEqual(run.can(), [0, 1])
        late = run.twin()
        self.assertIsNone(run.go(0))
        self.assertEqual(run.cell("x"), 2)
        late.go(1)
        self.assertEqual(late.can(), [])
        self.assertTrue(late.stands())

    def test_by_name_in_any_order(self):
        def work(hand):
            hand.put(value=2, cell="x")
            told = hand.look(cell="x"), hand.swap(value=3, cell="x"), hand.trade(value=4, old=3, cell="x")
            hand.until(value=4, cell="x")
            return told

        run = Run(Shop([work], cells={"x": 1}))
        while run.can():
            run.go(0)
        self.assertEqual(run.ends(), (("told", (2, 2, True)),))
        wishes = [wish for _, wish, _ in run.steps()]
        self.assertEqual(wishes, [("put", "x", 2), ("look", "x"), ("swap", "x", 3), ("trade", "x", 3, 4),
                                  ("until", "x", 4)])


class Locks(unittest.TestCase):
    def test_take_give_and_reach(self):
        run = alone(("take", "l"), ("give", "l"), ("reach", "l"), ("reach", "l"), ("give", "l"), locks=["l"])
        self.assertEqual(answers(run), [None, None, True, False, None])
        self.assertIsNone(run.holder("l"))
        self.assertIs(answers(run)[2], True)
        self.assertIs(answers(run)[3], False)

    def test_a_taken_lock_makes_others_wait(self):
        work = doing(("take", "l"), ("rest",), ("give", "l"))
        run = Run(Shop([work, work], locks=["l"]))
        self.assertEqual(run.can(), [0, 1])
        run.go(1)
        self.assertEqual((run.holder("l"), run.can()), (1, [1]))
        run.go(1)
        self.assertEqual(run.can(), [1])
        run.go(1)
        self.assertEqual((run.holder("l"), run.can()), (None, [0]))
        run.go(0)
        self.assertEqual(run.holder("l"), 0)

    def test_reach_need_not_wait(self):
        run = Run(Shop([doing(("take", "l")), doing(("reach", "l"), ("look", "x"))], locks=["l"], cells={"x": 1}))
        run.go(0)
        self.assertEqual(run.can(), [1])
        self.assertIs(run.go(1), False)
        self.assertEqual(run.holder("l"), 0)

    def test_a_lock_taken_twice_is_waited_for_for_ever(self):
        run = alone(("take", "l"), ("take", "l"), locks=["l"])
        self.assertEqual((run.turns(), run.holder("l"), run.wish(0)), ((0,), 0, ("take", "l")))
        self.assertTrue(run.stands())

    def test_a_reached_lock_that_is_taken_too(self):
        run = alone(("reach", "l"), ("take", "l"), locks=["l"])
        self.assertEqual(run.turns(), (0,))
        self.assertTrue(run.stands())

    def test_a_lock_held_at_the_end_stays_held(self):
        for last in (doing(("take", "l")), lambda hand: (hand.take("l"), hand.fail(1))):
            run = replay(Shop([last, doing(("take", "l"))], locks=["l"]), (0,))
            self.assertIsNotNone(run.ends()[0])
            self.assertEqual(run.holder("l"), 0)
            self.assertEqual(run.can(), [])
            self.assertTrue(run.stands())
            self.assertTrue(run.is_over())

    def test_locks_are_apart(self):
        run = alone(("take", "k"), ("take", "l"), ("give", "k"), locks=["k", "l"])
        self.assertEqual((run.holder("k"), run.holder("l")), (None, 0))
        self.assertTrue(run.is_over())
        self.assertFalse(run.stands())

    def test_by_name(self):
        def work(hand):
            hand.take(lock="l")
            hand.give(lock="l")
            return hand.reach(lock="l")

        run = replay(Shop([work], locks=["l"]), (0, 0, 0))
        self.assertEqual(run.ends(), (("told", True),))


class Belts(unittest.TestCase):
    def test_first_laid_is_first_fetched(self):
        run = alone(("lay", "b", 1), ("lay", "b", (2,)), ("fetch", "b"), ("lay", "b", None), ("fetch", "b"),
                    belts={"b": None})
        self.assertEqual(answers(run), [None, None, 1, None, (2,)])
        self.assertEqual(run.belt("b"), (None,))

    def test_sizes(self):
        for size in (1, 2, 3):
            run = alone(*[("lay", "b", at) for at in range(5)], belts={"b": size})
            self.assertEqual(run.belt("b"), tuple(range(size)))
            self.assertEqual(run.wish(0), ("lay", "b", size))
            self.assertTrue(run.stands())

    def test_a_fetch_makes_room(self):
        for size in (1, 2, 3):
            lays = doing(*[("lay", "b", at) for at in range(size + 1)])
            run = Run(Shop([lays, doing(("fetch", "b"), ("fetch", "b"))], belts={"b": size}))
            self.assertEqual(run.can(), [0])
            for _ in range(size - 1):
                run.go(0)
                self.assertEqual(run.can(), [0, 1])
            run.go(0)
            self.assertEqual(run.can(), [1])
            self.assertEqual(run.go(1), 0)
            self.assertIn(0, run.can())
            run.go(0)
            self.assertEqual(run.belt("b"), tuple(range(1, size + 1)))

    def test_without_end(self):
        run = alone(*[("lay", "b", at) for at in range(60)], belts={"b": None})
        self.assertEqual(run.belt("b"), tuple(range(60)))
        self.assertFalse(run.stands())

    def test_fetch_waits_until_there_is_a_value(self):
        run = Run(Shop([doing(("fetch", "b")), doing(("lay", "b", False))], belts={"b": 1}))
        self.assertEqual(run.can(), [1])
        run.go(1)
        self.assertEqual(run.can(), [0])
        self.assertIs(run.go(0), False)
        self.assertEqual(run.belt("b"), ())

    def test_by_name_in_any_order(self):
        def work(hand):
            hand.lay(value=4, belt="b")
            return hand.fetch(belt="b")

        run = replay(Shop([work], belts={"b": 1}), (0, 0))
        self.assertEqual(run.ends(), (("told", 4),))
        self.assertEqual(run.steps(), [(0, ("lay", "b", 4), None), (0, ("fetch", "b"), 4)])


class Rest(unittest.TestCase):
    def test_it_does_nothing(self):
        shop = Shop([doing(("rest",)), idle], cells={"x": 1}, locks=["l"], belts={"b": 1})
        run = Run(shop)
        before = run.outcome()[1:]
        self.assertIsNone(run.go(0))
        self.assertEqual(run.outcome()[1:], before)
        self.assertEqual(run.steps(), [(0, ("rest",), None)])


class SayAndFail(unittest.TestCase):
    def test_they_are_no_wishes(self):
        def work(hand):
            hand.say(1)
            hand.say(value="two")
            hand.fail(value=3)

        run = Run(Shop([work]))
        self.assertEqual((run.can(), run.wish(0), run.turns()), ([], None, ()))
        self.assertEqual(run.ends(), (("failed", 3),))
        self.assertEqual(run.said(0), (1, "two"))

    def test_say_tells_nothing(self):
        self.assertEqual(Run(Shop([lambda hand: hand.say(1)])).ends(), (("told", None),))

    def test_what_is_said_stands_there_once_and_in_order(self):
        def work(hand):
            hand.say("first")
            told = hand.look("x")
            hand.say(told)
            hand.say(told)
            hand.rest()
            hand.say(True)
            hand.say((1, None))

        run = Run(Shop([work, work], cells={"x": 5}))
        self.assertEqual(run.said(0), ("first",))
        run.go(0)
        self.assertEqual(run.said(0), ("first", 5, 5))
        self.assertEqual(run.said(1), ("first",))
        run.go(0)
        self.assertEqual(run.said(0), ("first", 5, 5, True, (1, None)))
        self.assertIs(run.said(0)[3], True)
        self.assertEqual(run.ends(), (("told", None), None))

    def test_fail_ends_the_work_there(self):
        def work(hand):
            hand.put("x", 1)
            hand.fail(("bad", 1))
            hand.put("x", 2)

        run = replay(Shop([work], cells={"x": 0}), (0,))
        self.assertEqual((run.can(), run.cell("x"), run.ends()), ([], 1, (("failed", ("bad", 1)),)))
        self.assertFalse(run.stands())

    def test_a_work_tells_what_it_returns(self):
        for value in (0, False, None, "", (), (1, (True,))):
            run = Run(Shop([lambda hand, value=value: value]))
            self.assertEqual(repr(run.ends()), repr((("told", value),)))


class Errors(unittest.TestCase):
    """Errors of the methods, one at a time, and the order of several."""

    def setUp(self):
        self.things = {"cells": {"c": 1}, "locks": ["l"], "belts": {"b": 1}}

    def error(self, kind, *wish, **named):
        """The error that a wish raises in the work, out of Run, without a wish."""

        def work(hand):
            try:
                getattr(hand, wish[0])(*wish[1:], **named)
            except TurnError as error:
                caught.append(error)
                hand.say("caught")
            return "end"

        caught = []
        run = Run(Shop([work], **self.things))
        self.assertEqual((run.can(), run.ends(), run.said(0)), ([], (("told", "end"),), ("caught",)))
        self.assertIs(type(caught[0]), kind)
        return caught[0]

    def test_no_such_thing_of_this_kind(self):
        for name in ("no", "l", "b", "", "C", 1, None, ["c"], ("c",)):
            for wish in (("look",), ("put", 1), ("swap", 1), ("trade", 1, 2), ("until", 1)):
                self.assertIs(self.error(NoThing, wish[0], name, *wish[1:]).name, name)
        for name in ("no", "c", "b", "", ["l"]):
            for wish in ("take", "give", "reach"):
                self.assertIs(self.error(NoThing, wish, name).name, name)
        for name in ("no", "c", "l", "", ["b"]):
            for wish in (("lay", 1), ("fetch",)):
                self.assertIs(self.error(NoThing, wish[0], name, *wish[1:]).name, name)

    def test_no_value(self):
        for bad in ([], 1.0, {}, (1, [2])):
            for wish in (("put", "c"), ("swap", "c"), ("until", "c"), ("lay", "b"), ("say",), ("fail",)):
                self.assertIs(self.error(BadValue, *wish, bad).value, bad)
            self.assertIs(self.error(BadValue, "trade", "c", bad, 1).value, bad)
            self.assertIs(self.error(BadValue, "trade", "c", 1, bad).value, bad)

    def test_the_first_argument_that_is_no_value(self):
        one, other = [1], [2]
        self.assertIs(self.error(BadValue, "trade", "c", one, other).value, one)
        self.assertIs(self.error(BadValue, "trade", value=one, old=other, cell="c").value, other)

    def test_no_thing_comes_ahead_of_no_value(self):
        self.assertEqual(self.error(NoThing, "put", "no", []).name, "no")
        self.assertEqual(self.error(NoThing, "swap", "no", []).name, "no")
        self.assertEqual(self.error(NoThing, "trade", "no", [], []).name, "no")
        self.assertEqual(self.error(NoThing, "until", "no", []).name, "no")
        self.assertEqual(self.error(NoThing, "lay", "no", []).name, "no")

    def test_a_lock_that_is_not_held(self):
        self.assertEqual(self.error(NotHeld, "give", "l").lock, "l")

    def held(self, ahead):
        """A work that makes the wishes ahead, gives the lock then and tells whether it held it."""

        def work(hand):
            for name, *given in ahead:
                getattr(hand, name)(*given)
            try:
                hand.give("l")
            except NotHeld as error:
                return error.lock
            return True

        return work

    def test_give_behind_other_wishes(self):
        rows = (
            ([("take", "l")], True),
            ([("reach", "l")], True),
            ([("reach", "l"), ("reach", "l")], True),
            ([("take", "l"), ("reach", "l")], True),
            ([("take", "l"), ("give", "l")], "l"),
            ([("take", "k")], "l"),
            ([("take", "l"), ("give", "l"), ("take", "l")], True),
            ([("take", "k"), ("take", "l"), ("give", "k")], True),
        )
        for ahead, told in rows:
            run = Run(Shop([self.held(ahead)], locks=["k", "l"]))
            while run.can():
                run.go(0)
            self.assertEqual(run.ends(), (("told", told),))

    def test_give_of_a_lock_that_another_work_holds(self):
        shop = Shop([doing(("take", "l")), self.held([("rest",)]), self.held([("reach", "l")])], locks=["l"])
        run = replay(shop, (0, 1, 2))
        self.assertEqual(run.ends(), (("told", (None,)), ("told", "l"), ("told", "l")))
        self.assertEqual(run.holder("l"), 0)

    def test_an_error_that_is_taken_changes_nothing(self):
        def work(hand):
            hand.take("l")
            for call in (lambda: hand.put("no", 1), lambda: hand.put("c", []), lambda: hand.give("k"),
                         lambda: hand.say([]), lambda: hand.fail([])):
                try:
                    call()
                except TurnError:
                    pass
            return hand.swap("c", 2)

        run = replay(Shop([work], cells={"c": 1}, locks=["k", "l"]), (0,))
        self.assertEqual((run.wish(0), run.said(0), run.cell("c"), run.holder("l")), (("swap", "c", 2), (), 1, 0))
        run.go(0)
        self.assertEqual(run.ends(), (("told", 1),))
        self.assertEqual(len(run.steps()), 2)

    def test_an_error_that_leaves_the_work_goes_out_of_run(self):
        shop = Shop([lambda hand: hand.look("no")], **self.things)
        self.assertEqual(failure(NoThing, Run, shop).name, "no")
        shop = Shop([lambda hand: hand.say(1.5)], **self.things)
        self.assertEqual(failure(BadValue, Run, shop).value, 1.5)
        shop = Shop([lambda hand: hand.give("l")], **self.things)
        self.assertEqual(failure(NotHeld, Run, shop).lock, "l")

    def test_an_error_that_leaves_the_work_goes_out_of_go(self):
        shop = Shop([doing(("rest",), ("give", "l"))], **self.things)
        run = Run(shop)
        before = seen(run)
        self.assertEqual(failure(NotHeld, run.go, 0).lock, "l")
        self.assertEqual(seen(run), before)

    def test_what_is_returned_and_is_no_value(self):
        for bad in ([], 1.0, {}, (1, [2]), object()):
            error = failure(BadValue, Run, Shop([lambda hand: bad]))
            self.assertIs(error.value, bad)

    def test_a_list_that_is_returned_late(self):
        def work(hand):
            return [hand.look("c")]

        run = Run(Shop([work], **self.things))
        before = seen(run)
        self.assertEqual(failure(BadValue, run.go, 0).value, [1])
        self.assertEqual(seen(run), before)


if __name__ == "__main__":
    unittest.main()
