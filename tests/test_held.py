"""[1], [17] to [19]: how works are run anew, Held, and errors of the works' own."""

import unittest

from helpers import doing, failure, idle, seen
from turnways.errors import BadValue, Held, NoThing, TurnError
from turnways.runs import Run, replay
from turnways.shops import Shop

THINGS = {"cells": {"c": 1}, "locks": ["l", "m"], "belts": {"b": 1}}

# Wishes that need not wait, and some that must, each as it is told.
WISHES = (
    ("look", "c"),
    ("put", "c", 2),
    ("swap", "c", 2),
    ("trade", "c", 1, 2),
    ("until", "c", 1),
    ("until", "c", 9),
    ("take", "l"),
    ("reach", "l"),
    ("give", "m"),
    ("lay", "b", 1),
    ("fetch", "b"),
    ("rest",),
)

# Every method, also with arguments that would raise another error.
CALLS = WISHES + (
    ("take", "m"),
    ("say", 1),
    ("fail", 1),
    ("look", "no"),
    ("put", "no", []),
    ("put", "c", []),
    ("trade", "c", [], []),
    ("until", "c", []),
    ("take", "no"),
    ("give", "l"),
    ("give", "no"),
    ("reach", "no"),
    ("lay", "b", []),
    ("lay", "no", 1),
    ("fetch", "no"),
    ("say", []),
    ("fail", []),
)


def call(hand, wish):
    return getattr(hand, wish[0])(*wish[1:])


class Anew(unittest.TestCase):
    def test_a_work_goes_on_with_the_answers_that_it_had(self):
        def work(hand):
            told = []
            for _ in range(5):
                told.append(hand.swap("x", hand.me))
            return tuple(told)

        run = replay(Shop([work, work], cells={"x": "first"}), (0, 1, 1, 0, 1, 0, 0, 1, 1, 0))
        self.assertEqual(run.ends(), (("told", ("first", 1, 1, 0, 1)), ("told", (0, 1, 0, 0, 1))))

    def test_answers_are_those_of_their_moments(self):
        def work(hand):
            early = hand.look("x")
            hand.until("x", 9)
            return early, hand.look("x")

        run = replay(Shop([work, doing(("put", "x", 9))], cells={"x": 1}), (0, 1, 0, 0))
        self.assertEqual(run.ends()[0], ("told", (1, 9)))

    def test_works_do_what_they_like_between_wishes(self):
        def work(hand):
            rows = {}
            while len(rows) < 3:
                rows.setdefault(hand.look("x"), []).append(hand.me)
                hand.put("x", sum(rows) + 1)
            return tuple(sorted(rows))

        run = Run(Shop([work], cells={"x": 0}))
        while run.can():
            run.go(0)
        self.assertEqual(run.ends(), (("told", (0, 1, 2)),))

    def test_wishes_in_functions_and_generators_of_the_work(self):
        def each(hand):
            for name in ("a", "b"):
                yield hand.look(name)

        def work(hand):
            return sum(each(hand)) + max(each(hand))

        run = replay(Shop([work], cells={"a": 3, "b": 4}), (0, 0, 0, 0))
        self.assertEqual(run.ends(), (("told", 11),))

    def test_longer_than_the_limits_for_asking(self):
        def work(hand):
            while hand.look("x") < 60:
                hand.put("x", hand.look("x") + 1)

        run = replay(Shop([work], cells={"x": 0}, longest=1, most=1), (0,) * 181)
        self.assertEqual((run.cell("x"), run.ends()), (60, (("told", None),)))

    def test_a_work_that_catches_turn_errors_does_not_catch_held(self):
        def work(hand):
            try:
                hand.rest()
            except (TurnError, ValueError):
                return "caught"
            return "rested"

        self.assertEqual(replay(Shop([work]), (0,)).ends(), (("told", "rested"),))


class TakenHeld(unittest.TestCase):
    """Works that take Held and do something on its way."""

    def run_of(self, wish, then):
        """A run of a work that stands with the wish, and does something more on its way."""

        def work(hand):
            hand.say("ahead")
            if wish == ("give", "m"):
                hand.take("m")
            try:
                call(hand, wish)
            except Held:
                return then(hand)
            hand.say("behind")
            return "end"

        run = Run(Shop([work, idle], **THINGS))
        if wish == ("give", "m"):
            run.go(0)
        return run

    def check(self, wish, then):
        run = self.run_of(wish, then)
        plain = self.run_of(wish, lambda hand: hand.rest())
        self.assertEqual(run.wish(0), wish)
        self.assertEqual(run.said(0), ("ahead",))
        self.assertEqual(run.ends(), (None, ("told", None)))
        self.assertEqual(seen(run), seen(plain))
        if run.can():
            run.go(0)
            self.assertEqual((run.said(0), run.ends()[0]), (("ahead", "behind"), ("told", "end")))

    def test_returning(self):
        for wish in WISHES:
            for value in (None, 1, "end", [], 1.5):
                self.check(wish, lambda hand, value=value: value)

    def test_calling_any_method(self):
        for wish in WISHES:
            for other in CALLS:
                self.check(wish, lambda hand, other=other: call(hand, other))

    def test_calling_and_taking_held_again(self):
        def then(hand):
            caught = []
            for other in CALLS:
                try:
                    call(hand, other)
                except Exception as error:
                    caught.append(error)
            self.assertEqual([type(error) for error in caught], [Held] * len(CALLS))
            return "end"

        for wish in WISHES:
            self.check(wish, then)

    def test_letting_it_go_on_later(self):
        def then(hand):
            raise

        for wish in WISHES:
            self.check(wish, then)

    def test_in_a_finally_part(self):
        for name, *given in (("say", 1), ("put", "c", 5), ("give", "l"), ("fail", 1)):
            def work(hand):
                hand.take("l")
                try:
                    hand.until("c", 2)
                finally:
                    getattr(hand, name)(*given)

            run = replay(Shop([work, idle], **THINGS), (0,))
            self.assertEqual((run.wish(0), run.said(0), run.holder("l"), run.cell("c")), (("until", "c", 2), (), 0, 1))
            self.assertTrue(run.stands())

    def test_a_lock_given_in_a_finally_part_is_given_once(self):
        def work(hand):
            hand.take("l")
            try:
                hand.rest()
            finally:
                hand.give("l")
            return "end"

        run = replay(Shop([work], **THINGS), (0, 0, 0))
        self.assertEqual([wish for _, wish, _ in run.steps()], [("take", "l"), ("rest",), ("give", "l")])
        self.assertEqual(run.ends(), (("told", "end"),))

    def test_held_has_no_arguments_and_is_just_held(self):
        caught = []

        def work(hand):
            try:
                hand.rest()
            except BaseException as error:
                caught.append(error)
                raise

        Run(Shop([work]))
        self.assertIs(type(caught[0]), Held)
        self.assertEqual(caught[0].args, ())


class TakenAtFail(unittest.TestCase):
    def check(self, then):
        def work(hand):
            hand.say("ahead")
            hand.rest()
            try:
                hand.fail((1, "bad"))
            except Held:
                return then(hand)

        run = replay(Shop([work], **THINGS), (0,))
        self.assertEqual(run.ends(), (("failed", (1, "bad")),))
        self.assertEqual((run.said(0), run.wish(0), run.can(), run.cell("c")), (("ahead",), None, [], 1))
        self.assertFalse(run.stands())

    def test_returning(self):
        for value in (None, 1, [], 1.5):
            self.check(lambda hand: value)

    def test_calling_any_method(self):
        for other in CALLS:
            self.check(lambda hand: call(hand, other))

    def test_calling_and_taking_held_again(self):
        def then(hand):
            kinds = []
            for other in CALLS:
                try:
                    call(hand, other)
                except Exception as error:
                    kinds.append(type(error))
            self.assertEqual(kinds, [Held] * len(CALLS))
            return "end"

        self.check(then)


class OwnErrors(unittest.TestCase):
    def test_out_of_run_unchanged(self):
        for error in (KeyError("x"), RuntimeError(), StopIteration(3), KeyboardInterrupt(), NoThing("mine")):
            def work(hand):
                raise error

            with self.assertRaises(type(error)) as caught:
                Run(Shop([idle, work]))
            self.assertIs(caught.exception, error)

    def test_the_works_come_in_their_order(self):
        def wrong(hand):
            raise KeyError(hand.me)

        self.assertEqual(failure(KeyError, Run, Shop([idle, wrong, wrong])).args, (1,))

    def test_a_bad_value_and_another_error_come_in_the_order_of_the_works(self):
        def wrong(hand):
            raise KeyError(hand.me)

        self.assertEqual(failure(BadValue, Run, Shop([lambda hand: [], wrong])).value, [])
        self.assertEqual(failure(KeyError, Run, Shop([wrong, lambda hand: []])).args, (0,))

    def test_out_of_go_unchanged_with_the_run_as_it_was(self):
        mine = KeyError("mine")

        def wrong(hand):
            hand.say("ahead")
            hand.take("l")
            hand.swap("c", 5)
            hand.lay("b", 1)
            hand.say("late")
            raise mine

        run = replay(Shop([wrong, doing(("reach", "l"), ("fetch", "b"))], **THINGS), (0, 0))
        before = seen(run)
        for _ in range(2):
            with self.assertRaises(KeyError) as caught:
                run.go(0)
            self.assertIs(caught.exception, mine)
            self.assertEqual(seen(run), before)
        self.assertEqual((run.belt("b"), run.said(0)), ((), ("ahead",)))
        self.assertIs(run.go(1), False)
        self.assertEqual(run.turns(), (0, 0, 1))

    def test_each_kind_of_step_is_taken_back(self):
        for wish in (("put", "c", 2), ("swap", "c", 2), ("trade", "c", 1, 2), ("take", "l"), ("reach", "l"),
                     ("lay", "b", 1), ("rest",)):
            def wrong(hand):
                call(hand, wish)
                raise KeyError

            run = Run(Shop([wrong], **THINGS))
            before = seen(run)
            failure(KeyError, run.go, 0)
            self.assertEqual(seen(run), before)

        def fetching(hand):
            hand.lay("b", 1)
            hand.take("l")
            hand.fetch("b") if hand.look("c") == 1 else hand.give("l")
            raise KeyError

        for cell in (1, 2):
            run = replay(Shop([fetching], **{**THINGS, "cells": {"c": cell}}), (0, 0, 0))
            before = seen(run)
            failure(KeyError, run.go, 0)
            self.assertEqual(seen(run), before)
            self.assertEqual((run.belt("b"), run.holder("l")), ((1,), 0))

    def test_bad_value_out_of_go_with_the_run_as_it_was(self):
        bad = ([],)

        def wrong(hand):
            hand.put("c", 5)
            return bad

        run = Run(Shop([wrong], **THINGS))
        before = seen(run)
        self.assertIs(failure(BadValue, run.go, 0).value, bad)
        self.assertEqual(seen(run), before)

    def test_other_calls_come_to_nothing_new(self):
        def wrong(hand):
            hand.rest()
            raise KeyError

        run = Run(Shop([wrong, doing(("rest",), ("rest",))]))
        self.assertEqual(run.can(), [0, 1])
        twin = run.twin()
        run.go(1)
        self.assertEqual(seen(run.twin()), seen(run))
        self.assertEqual(twin.turns(), ())
        self.assertEqual(run.outcome()[0], (None, None))

    def test_held_of_no_hand_goes_on_like_any_error(self):
        def wrong(hand):
            raise Held()

        self.assertRaises(Held, Run, Shop([wrong]))


if __name__ == "__main__":
    unittest.main()
