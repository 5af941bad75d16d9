"""[3], [5], [20] to [23]: runs, what they tell, what they refuse, twins and replay."""

import unittest

from helpers import all_runs, doing, failure, idle, seen
from turnways.errors import BadValue, CanNot, NoThing, NoWork
from turnways.runs import Run, replay
from turnways.shops import Shop

NO_NUMBERS = (-1, 2, 100, True, False, None, "0", 0.0, 1.0, (0,), [0], {})


def small():
    """A shop of two works with a thing of each kind."""
    one = doing(("take", "l"), ("put", "x", 1), ("give", "l"), ("lay", "b", "one"))

    def other(hand):
        hand.say(hand.fetch("b"))
        hand.take("l")
        hand.say(hand.trade("x", 1, (2,)))
        hand.fail("enough")

    return Shop([one, other], cells={"x": 0, "a": None}, locks=["l", "k"], belts={"b": 1, "e": None})


class Wishes(unittest.TestCase):
    def test_each_method(self):
        wishes = (
            ("look", "x"),
            ("put", "x", 1),
            ("swap", "x", (1, 2)),
            ("trade", "x", 1, 2),
            ("until", "x", None),
            ("take", "l"),
            ("reach", "l"),
            ("lay", "b", True),
            ("fetch", "b"),
            ("rest",),
        )
        for wish in wishes:
            run = Run(Shop([idle, doing(wish)], cells={"x": 0}, locks=["l"], belts={"b": 1}))
            self.assertEqual(repr(run.wish(1)), repr(wish))
            self.assertIsNone(run.wish(0))
            self.assertEqual(run.wish(k=1), wish)

    def test_give(self):
        run = replay(Shop([doing(("take", "l"), ("give", "l"))], locks=["l"]), (0,))
        self.assertEqual(run.wish(0), ("give", "l"))
        run.go(0)
        self.assertIsNone(run.wish(0))

    def test_no_work(self):
        run = Run(small())
        for number in NO_NUMBERS:
            self.assertIs(failure(NoWork, run.wish, number).number, number)
            self.assertIs(failure(NoWork, run.said, number).number, number)
            self.assertIs(failure(NoWork, run.go, number).number, number)


class Going(unittest.TestCase):
    def test_can_lists_who_need_not_wait(self):
        run = Run(small())
        self.assertEqual(run.can(), [0])
        for k in (0, 0, 0, 0):
            self.assertEqual(run.can(), [0])
            run.go(k=k)
        self.assertEqual(run.can(), [1])

    def test_can_is_a_new_list_each_time_and_ascending(self):
        run = Run(Shop([doing(("rest",))] * 4))
        told = run.can()
        self.assertEqual(told, [0, 1, 2, 3])
        told.clear()
        self.assertEqual(run.can(), [0, 1, 2, 3])
        run.go(1)
        self.assertEqual(run.can(), [0, 2, 3])

    def test_go_tells_the_answer(self):
        run = Run(Shop([doing(("look", "x"), ("swap", "x", 2), ("put", "x", 3))], cells={"x": 1}))
        self.assertEqual([run.go(0), run.go(0), run.go(0)], [1, 1, None])

    def test_who_cannot_go(self):
        run = Run(small())
        before = seen(run)
        self.assertEqual(failure(CanNot, run.go, 1).number, 1)
        self.assertEqual(seen(run), before)
        ended = Run(Shop([idle]))
        self.assertEqual(failure(CanNot, ended.go, 0).number, 0)

    def test_no_work_comes_ahead_of_who_cannot_go(self):
        ended = Run(Shop([idle, idle]))
        for number in (True, False, 2, -1):
            self.assertIs(failure(NoWork, ended.go, number).number, number)

    def test_turns_and_steps(self):
        run = Run(small())
        self.assertEqual((run.turns(), run.steps()), ((), []))
        for k in (0, 0, 0, 0, 1, 1, 1):
            run.go(k)
        self.assertEqual(run.turns(), (0, 0, 0, 0, 1, 1, 1))
        self.assertIsInstance(run.turns(), tuple)
        steps = [
            (0, ("take", "l"), None),
            (0, ("put", "x", 1), None),
            (0, ("give", "l"), None),
            (0, ("lay", "b", "one"), None),
            (1, ("fetch", "b"), "one"),
            (1, ("take", "l"), None),
            (1, ("trade", "x", 1, (2,)), True),
        ]
        self.assertEqual(run.steps(), steps)
        run.steps().clear()
        self.assertEqual(run.steps(), steps)


class Telling(unittest.TestCase):
    def test_ends(self):
        run = replay(small(), (0, 0, 0, 0))
        self.assertEqual(run.ends(), (("told", (None, None, None, None)), None))
        for _ in range(3):
            run.go(1)
        self.assertEqual(run.ends()[1], ("failed", "enough"))
        self.assertIsInstance(run.ends(), tuple)

    def test_things(self):
        run = replay(small(), (0, 0))
        self.assertEqual((run.cell("x"), run.cell(name="a")), (1, None))
        self.assertEqual((run.holder("l"), run.holder(name="k")), (0, None))
        run = replay(small(), (0, 0, 0, 0))
        self.assertEqual((run.belt("b"), run.belt(name="e")), (("one",), ()))
        self.assertIsInstance(run.belt("b"), tuple)

    def test_no_such_thing_of_this_kind(self):
        run = Run(small())
        for method, names in ((run.cell, "lb"), (run.holder, "xb"), (run.belt, "xl")):
            for name in (*names, "no", "", 1, None, True, ["x"], ("x",)):
                self.assertIs(failure(NoThing, method, name).name, name)

    def test_said(self):
        run = replay(small(), (0, 0, 0, 0, 1))
        self.assertEqual((run.said(0), run.said(k=1)), ((), ("one",)))
        self.assertIsInstance(run.said(1), tuple)

    def test_outcome(self):
        run = Run(small())
        self.assertEqual(
            run.outcome(),
            ((None, None), (("a", None), ("x", 0)), (("k", None), ("l", None)), (("b", ()), ("e", ())), ((), ())),
        )
        for k in (0, 0, 0, 0):
            run.go(k)
        told = ("told", (None,) * 4)
        self.assertEqual(
            run.outcome(),
            ((told, None), (("a", None), ("x", 1)), (("k", None), ("l", None)), (("b", ("one",)), ("e", ())), ((), ())),
        )
        for k in (1, 1, 1):
            run.go(k)
        self.assertEqual(
            run.outcome(),
            (
                (told, ("failed", "enough")),
                (("a", None), ("x", (2,))),
                (("k", None), ("l", 1)),
                (("b", ()), ("e", ())),
                ((), ("one", True)),
            ),
        )

    def test_outcome_is_tuples_throughout(self):
        def check(told):
            self.assertNotIsInstance(told, list)
            if isinstance(told, tuple):
                for inner in told:
                    check(inner)

        for run in all_runs(small(), Run(small())):
            self.assertEqual(len(run.outcome()), 5)
            check(run.outcome())

    def test_over_and_standing(self):
        run = Run(small())
        for k in (0, 0, 0, 0, 1, 1, 1):
            self.assertIs(run.is_over(), False)
            self.assertIs(run.stands(), False)
            run.go(k)
        self.assertIs(run.is_over(), True)
        self.assertIs(run.stands(), False)

    def test_a_standstill(self):
        def work(hand):
            locks = ("k", "l") if hand.me == 0 else ("l", "k")
            for lock in locks:
                hand.take(lock)
            for lock in locks:
                hand.give(lock)

        run = replay(Shop([work, work], locks=["k", "l"]), (0, 1))
        self.assertIs(run.is_over(), True)
        self.assertIs(run.stands(), True)
        self.assertEqual((run.wish(0), run.wish(1)), (("take", "l"), ("take", "k")))
        run = replay(Shop([work, work], locks=["k", "l"]), (0, 0, 0, 0, 1, 1, 1, 1))
        self.assertIs(run.stands(), False)

    def test_one_work_at_its_end_and_one_that_waits(self):
        run = Run(Shop([idle, doing(("fetch", "b"))], belts={"b": 1}))
        self.assertIs(run.stands(), True)

    def test_runs_of_one_shop_are_apart(self):
        shop = small()
        one, other = Run(shop), Run(shop)
        one.go(0)
        self.assertEqual(other.turns(), ())
        self.assertEqual(other.holder("l"), None)
        self.assertEqual(seen(Run(shop)), seen(other))

    def test_by_name(self):
        self.assertEqual(Run(shop=small()).turns(), ())


class Twins(unittest.TestCase):
    def test_a_twin_is_as_the_run_is(self):
        shop = small()
        for run in all_runs(shop, Run(shop)):
            twin = run.twin()
            self.assertIsNot(twin, run)
            self.assertIsInstance(twin, Run)
            self.assertEqual(seen(twin), seen(run))

    def test_twins_go_their_own_ways(self):
        def work(hand):
            hand.say(hand.swap("x", hand.me))
            hand.lay("b", hand.me)
            hand.reach("l")
            return hand.look("x")

        shop = Shop([work, work], cells={"x": None}, locks=["l"], belts={"b": None})
        run = replay(shop, (0, 0))
        first, second = run.twin(), run.twin()
        before = seen(run)
        for k in (1, 1, 1, 1, 0, 0):
            first.go(k)
        self.assertEqual(seen(run), before)
        self.assertEqual(seen(second), before)
        for k in (0, 1, 0, 1, 1, 1):
            second.go(k)
        self.assertEqual(seen(run), before)
        self.assertEqual(seen(first), seen(replay(shop, (0, 0, 1, 1, 1, 1, 0, 0))))
        self.assertEqual(seen(second), seen(replay(shop, (0, 0, 0, 1, 0, 1, 1, 1))))
        self.assertEqual((first.holder("l"), second.holder("l")), (1, 0))
        run.go(1)
        self.assertEqual(seen(first), seen(replay(shop, (0, 0, 1, 1, 1, 1, 0, 0))))

    def test_a_twin_of_a_twin(self):
        run = replay(small(), (0, 0))
        twin = run.twin().twin()
        run.go(0)
        self.assertEqual((twin.turns(), twin.holder("l")), ((0, 0), 0))
        twin.go(0)
        self.assertEqual(seen(twin), seen(run))

    def test_a_twin_has_the_errors_of_its_run(self):
        twin = Run(small()).twin()
        self.assertEqual(failure(CanNot, twin.go, 1).number, 1)
        self.assertEqual(failure(NoWork, twin.go, 2).number, 2)
        self.assertEqual(failure(NoThing, twin.cell, "l").name, "l")


class Replays(unittest.TestCase):
    def test_the_replay_of_the_turns_of_each_run(self):
        shop = small()
        count = 0
        for run in all_runs(shop, Run(shop)):
            self.assertEqual(seen(replay(shop, run.turns())), seen(run))
            self.assertEqual(seen(replay(shop, list(run.turns()))), seen(run))
            count += 1
        self.assertEqual(count, 8)

    def test_many_turns_of_works_that_do_not_wait(self):
        def work(hand):
            number = hand.look("n")
            hand.put("n", number + 1)

        shop = Shop([work, work], cells={"n": 0})
        over = [run for run in all_runs(shop, Run(shop)) if run.is_over()]
        told = {run.turns(): run.cell("n") for run in over}
        self.assertEqual(
            told,
            {
                (0, 0, 1, 1): 2,
                (0, 1, 0, 1): 1,
                (0, 1, 1, 0): 1,
                (1, 0, 0, 1): 1,
                (1, 0, 1, 0): 1,
                (1, 1, 0, 0): 2,
            },
        )
        for turns in told:
            self.assertEqual(replay(shop, turns).cell("n"), told[turns])

    def test_no_turns(self):
        self.assertEqual(seen(replay(small(), ())), seen(Run(small())))
        self.assertEqual(seen(replay(small(), [])), seen(Run(small())))

    def test_by_name_and_without_change_of_what_is_passed(self):
        turns = [0, 0, 0]
        run = replay(turns=turns, shop=small())
        self.assertEqual(turns, [0, 0, 0])
        turns.append(0)
        self.assertEqual(run.turns(), (0, 0, 0))

    def test_a_run_goes_on_behind_a_replay(self):
        run = replay(small(), (0, 0))
        run.go(0)
        self.assertEqual(run.turns(), (0, 0, 0))

    def test_wrong_turns(self):
        for turns in ((1,), (0, 1), (0, 0, 0, 0, 0), [0, 0, 0, 1]):
            number = turns[-1]
            self.assertEqual(failure(CanNot, replay, small(), turns).number, number)
        for number in NO_NUMBERS:
            self.assertIs(failure(NoWork, replay, small(), (number,)).number, number)
            self.assertIs(failure(NoWork, replay, small(), [0, 0, number, 0]).number, number)

    def test_the_first_wrong_turn(self):
        self.assertEqual(failure(CanNot, replay, small(), (0, 1, 7)).number, 1)
        self.assertEqual(failure(NoWork, replay, small(), (0, 7, 1)).number, 7)
        self.assertIs(failure(NoWork, replay, small(), (0, False, 7)).number, False)

    def test_errors_of_works(self):
        def late(hand):
            hand.rest()
            raise KeyError("late")

        shop = Shop([late, doing(("rest",))])
        self.assertEqual(replay(shop, (1,)).turns(), (1,))
        self.assertEqual(failure(KeyError, replay, shop, (1, 0)).args, ("late",))
        self.assertEqual(failure(KeyError, replay, shop, (0, 7)).args, ("late",))
        self.assertEqual(failure(NoWork, replay, shop, (7, 0)).number, 7)

        def early(hand):
            return []

        self.assertEqual(failure(BadValue, replay, Shop([early]), (7,)).value, [])

    def test_longer_than_the_limit_of_turns(self):
        shop = Shop([doing(*[("rest",)] * 50)], longest=1)
        self.assertEqual(replay(shop, [0] * 50).is_over(), True)


if __name__ == "__main__":
    unittest.main()
