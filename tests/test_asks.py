"""What is asked about all runs: [31] to [37], and what [3], [4], [6] and [19] say of it."""

import unittest

from helpers import doing, failure, idle
from turnways.asks import (beginnings, every, fewest_changes, first, orders, outcomes, some, sometimes, unavoidable,
                           ways, webs)
from turnways.errors import BadValue, Beyond, Held, NoThing, NotHeld, NotTruth
from turnways.repairs import are_all, deciding, kept, least_stretches
from turnways.runs import Run, replay
from turnways.shops import Shop
from turnways.stills import clashes, not_serial, standstills
from turnways.webs import Web


class Own(Exception):
    """An error of the caller."""


def count(hand):
    number = hand.look("n")
    hand.put("n", number + 1)


def counting(many=2, **limits):
    return Shop([count] * many, cells={"n": 0}, **limits)


def resting(times):
    return doing(*[("rest",)] * times)


def number(outcome):
    return dict(outcome[1])["n"]


def is_lost(outcome):
    return number(outcome) == 1


def never_called(outcome):
    raise Own("the test was called")


def all_calls(shop, test):
    """Every function that asks about all runs of a shop, ready to be called."""
    return [
        lambda: ways(shop), lambda: webs(shop), lambda: orders(shop), lambda: beginnings(shop), lambda: outcomes(shop),
        lambda: every(shop, test), lambda: some(shop, test), lambda: first(shop, test), lambda: sometimes(shop, test),
        lambda: unavoidable(shop, test), lambda: fewest_changes(shop, test), lambda: standstills(shop),
        lambda: clashes(shop), lambda: not_serial(shop), lambda: are_all(shop, None), lambda: deciding(shop, test),
        lambda: kept(shop, [None]), lambda: least_stretches(shop, [None], test),
    ]


class Recorder:
    """A test of outcomes that notes what it was called with, and answers one thing after another."""

    def __init__(self, *answers):
        self.answers = list(answers)
        self.seen = []

    def __call__(self, outcome):
        self.seen.append(outcome)
        return self.answers.pop(0)


class Bounds(unittest.TestCase):
    def assertBeyond(self, shop):
        for call in all_calls(shop, never_called):
            failure(Beyond, call)

    def test_longest(self):
        for many, longest in ((1, 1), (3, 3), (40, 40)):
            shop = Shop([resting(many)], longest=longest)
            self.assertEqual(ways(shop), [(0,) * many])
            self.assertEqual(beginnings(shop), many + 1)
        for many, longest in ((2, 1), (4, 3), (41, 40)):
            self.assertBeyond(Shop([resting(many)], longest=longest))

    def test_longest_of_some_run_alone(self):
        def longer_if_first(hand):
            if hand.look("n") == 0:
                hand.rest()
                hand.rest()

        works = [longer_if_first, doing(("put", "n", 1))]
        self.assertBeyond(Shop(works, cells={"n": 0}, longest=3))
        self.assertEqual(len(ways(Shop(works, cells={"n": 0}, longest=4))), 2)

    def test_most(self):
        self.assertEqual(beginnings(Shop([resting(2), resting(2)], most=9)), 9)
        self.assertBeyond(Shop([resting(2), resting(2)], most=8))
        self.assertEqual(beginnings(counting(most=14)), 14)
        self.assertBeyond(counting(most=13))
        self.assertEqual(beginnings(Shop([idle], longest=1, most=1)), 1)
        self.assertBeyond(Shop([resting(1)], longest=1, most=1))

    def test_works_that_go_on_for_ever(self):
        def for_ever(hand):
            while True:
                hand.rest()

        def for_ever_touching(hand):
            while True:
                hand.put("n", hand.me)

        for works in ([for_ever], [for_ever] * 4, [for_ever_touching] * 4, [for_ever_touching, idle], [count, for_ever]):
            for limits in ({"longest": 1, "most": 1}, {"longest": 40, "most": 2000}, {"longest": 40, "most": 1},
                           {"longest": 1, "most": 2000}, {}):
                self.assertBeyond(Shop(works, cells={"n": 0}, **limits))

    def test_limits_of_the_search_do_not_bind_runs(self):
        shop = counting(longest=1, most=1)
        self.assertEqual(Web.of(shop, (0, 0, 1, 1)).turns(), (0, 0, 1, 1))
        self.assertTrue(replay(shop, (0, 0, 1, 1)).is_over())


class Ways(unittest.TestCase):
    def test_ways_and_webs(self):
        shop = counting()
        self.assertEqual(ways(shop), [(0, 0, 1, 1), (0, 1, 0, 1), (0, 1, 1, 0), (1, 1, 0, 0)])
        self.assertEqual(webs(shop), [Web.of(shop, turns) for turns in ways(shop)])
        self.assertIsInstance(ways(shop), list)
        self.assertEqual(webs(shop)[1].steps(), Web.of(shop, (1, 0, 0, 1)).steps())
        self.assertEqual(orders(shop), 6)
        self.assertEqual(beginnings(shop), 14)

    def test_works_without_wishes(self):
        shop = Shop([idle, idle])
        self.assertEqual(ways(shop), [()])
        self.assertEqual(orders(shop), 1)
        self.assertEqual(beginnings(shop), 1)
        self.assertEqual(outcomes(shop), [(Run(shop).outcome(), ())])

    def test_standstills_are_over(self):
        shop = Shop([doing(("until", "n", 5)), doing(("rest",))], cells={"n": 0})
        self.assertEqual(ways(shop), [(1,)])
        self.assertEqual(outcomes(shop)[0][0][0], (None, ("told", (None,))))

    def test_ways_of_different_lengths_ascend_as_tuples(self):
        def longer_if_second(hand):
            if hand.look("n") == 1:
                hand.rest()

        shop = Shop([longer_if_second, doing(("put", "n", 1))], cells={"n": 0})
        self.assertEqual(ways(shop), [(0, 1), (1, 0, 0)])
        shop = Shop([doing(("put", "n", 1)), longer_if_second], cells={"n": 0})
        self.assertEqual(ways(shop), [(0, 1, 1), (1, 0)])

    def test_lists_are_new(self):
        shop = counting()
        for ask in (ways, webs, outcomes, clashes, standstills):
            told = ask(shop)
            again = ask(shop)
            told.append("changed")
            self.assertEqual(ask(shop), again)

    def test_calls_by_name(self):
        shop = counting()
        self.assertEqual(ways(shop=shop), ways(shop))
        self.assertEqual(webs(shop=shop), webs(shop))
        self.assertEqual(orders(shop=shop), 6)
        self.assertEqual(beginnings(shop=shop), 14)
        self.assertEqual(outcomes(shop=shop), outcomes(shop))
        for ask in (every, some, first, sometimes, unavoidable, fewest_changes):
            self.assertEqual(ask(test=is_lost, shop=shop), ask(shop, is_lost))


class Outcomes(unittest.TestCase):
    def test_each_once_with_the_least_turns(self):
        shop = counting()
        told = outcomes(shop)
        self.assertEqual([turns for _, turns in told], [(0, 0, 1, 1), (0, 1, 0, 1)])
        self.assertEqual([number(outcome) for outcome, _ in told], [2, 1])
        self.assertEqual([outcome for outcome, _ in told], [replay(shop, turns).outcome() for _, turns in told])

    def last_to_put(self, one, other):
        shop = Shop([doing(("put", "n", one)), doing(("put", "n", other))], cells={"n": None})
        return outcomes(shop)

    def test_equal_outcomes_that_are_not_the_same_are_two(self):
        alike = [(1, True), (0, False), ((1,), (True,)), ((0, (0,)), (0, (False,))), ((((1,),),), (((True,),),)),
                 ((1, 0), (True, False))]
        for one, other in alike:
            told = self.last_to_put(one, other)
            self.assertEqual([turns for _, turns in told], [(0, 1), (1, 0)])
            self.assertEqual([repr(number(outcome)) for outcome, _ in told], [repr(other), repr(one)])

    def test_the_same_outcomes_are_one(self):
        for value in (1, True, None, "a", (1, (True, "a")), ()):
            told = self.last_to_put(value, value)
            self.assertEqual([turns for _, turns in told], [(0, 1)])

    def test_texts_are_not_mistaken_for_other_values(self):
        for one, other in ((1, "1"), (None, "None"), ((), "()"), ("a", "'a'"), (("a", "b"), ("a, b",)), ((1,), 1)):
            self.assertEqual(len(self.last_to_put(one, other)), 2)

    def test_what_works_said_and_how_they_ended_counts(self):
        def saying(hand):
            hand.say(hand.swap("n", hand.me) == 0)

        told = outcomes(Shop([saying] * 2, cells={"n": 0}))
        self.assertEqual([outcome[4] for outcome, _ in told], [((True,), (True,)), ((False,), (True,))])

        def failing(hand):
            value = hand.swap("n", True)
            if value == 0:
                hand.fail(value)
            return value

        told = outcomes(Shop([failing] * 2, cells={"n": 0}))
        self.assertEqual([outcome[0] for outcome, _ in told],
                         [(("failed", 0), ("told", True)), (("told", True), ("failed", 0))])


class Deciders(unittest.TestCase):
    """every, some and first: what they answer, and how they call their tests."""

    def shop(self):
        """A shop of three outcomes: the value of n is 2, 1 or 0, in this order."""
        return Shop([doing(("put", "n", 0)), doing(("put", "n", 1)), doing(("put", "n", 2))], cells={"n": 9})

    def setUp(self):
        self.told = [outcome for outcome, _ in outcomes(self.shop())]
        self.assertEqual([number(outcome) for outcome in self.told], [2, 1, 0])

    def test_answers(self):
        for row, turns in ((("T", "T", "T"), (0, 1, 2)), (("F", "T", "T"), (0, 2, 1)), (("F", "F", "T"), (1, 2, 0)),
                           (("F", "F", "F"), None), (("T", "F", "F"), (0, 1, 2))):
            truths = [sign == "T" for sign in row]
            self.assertIs(every(self.shop(), Recorder(*truths)), all(truths))
            self.assertIs(some(self.shop(), Recorder(*truths)), any(truths))
            self.assertEqual(first(self.shop(), Recorder(*truths)), turns)

    def test_calls_up_to_the_one_that_decides(self):
        for ask, answers, calls in ((every, (True, True, True), 3), (every, (True, False, True), 2),
                                    (every, (False, True, True), 1), (some, (True, False, False), 1),
                                    (some, (False, True, False), 2), (some, (False, False, False), 3),
                                    (first, (True, True, True), 1), (first, (False, False, True), 3),
                                    (first, (False, False, False), 3), (first, (False, True, False), 2)):
            test = Recorder(*answers)
            ask(self.shop(), test)
            self.assertEqual(test.seen, self.told[:calls])

    def test_what_is_no_truth(self):
        for ask, going in ((every, True), (some, False), (first, False)):
            for wrong in (1, 0, None, "True", [], [True], (), 1.0):
                test = Recorder(wrong, True, True)
                self.assertEqual(repr(failure(NotTruth, ask, self.shop(), test).value), repr(wrong))
                self.assertEqual(len(test.seen), 1)
                test = Recorder(going, going, wrong)
                self.assertEqual(repr(failure(NotTruth, ask, self.shop(), test).value), repr(wrong))
                self.assertEqual(len(test.seen), 3)
                self.assertEqual(len(outcomes(self.shop())), 3)
            wrong = [True]
            self.assertIs(failure(NotTruth, ask, self.shop(), Recorder(wrong)).value, wrong)

    def test_nothing_is_called_behind_the_one_that_decides(self):
        self.assertIs(every(self.shop(), Recorder(False, 5, 5)), False)
        self.assertIs(some(self.shop(), Recorder(True, 5, 5)), True)
        self.assertEqual(first(self.shop(), Recorder(True, 5, 5)), (0, 1, 2))

    def test_errors_of_tests_go_on(self):
        for ask in (every, some, first):
            error = failure(Own, ask, self.shop(), never_called)
            self.assertEqual(error.args, ("the test was called",))


class Moments(unittest.TestCase):
    """sometimes and unavoidable."""

    def test_the_nearest_beginning(self):
        shop = counting()
        self.assertEqual(sometimes(shop, lambda outcome: number(outcome) == 1), (0, 0))
        self.assertEqual(sometimes(shop, lambda outcome: number(outcome) == 2), (0, 0, 1, 1))
        self.assertEqual(sometimes(shop, lambda outcome: outcome[0][1] is not None), (1, 1))
        self.assertIsNone(sometimes(shop, lambda outcome: number(outcome) == 3))

    def test_the_fewest_steps_come_before_the_least_turns(self):
        shop = Shop([doing(("rest",), ("rest",), ("put", "n", 1)), doing(("put", "n", 1))], cells={"n": 0})
        self.assertEqual(sometimes(shop, is_lost), (1,))

    def test_true_at_the_very_beginning(self):
        self.assertEqual(sometimes(counting(), lambda outcome: True), ())
        self.assertEqual(sometimes(Shop([idle]), lambda outcome: True), ())
        self.assertIsNone(unavoidable(counting(), lambda outcome: number(outcome) == 0))

    def test_true_at_the_end_alone(self):
        shop = Shop([doing(("rest",)), doing(("rest",))])
        self.assertIsNone(unavoidable(shop, lambda outcome: None not in outcome[0]))
        self.assertEqual(sometimes(shop, lambda outcome: None not in outcome[0]), (0, 1))

    def test_unavoidable(self):
        shop = counting()
        self.assertIsNone(unavoidable(shop, lambda outcome: number(outcome) == 1))
        self.assertEqual(unavoidable(shop, lambda outcome: number(outcome) == 2), (0, 1, 0, 1))
        self.assertEqual(unavoidable(shop, lambda outcome: False), (0, 0, 1, 1))
        self.assertIsNone(unavoidable(shop, lambda outcome: True))
        self.assertIsNone(unavoidable(Shop([idle]), lambda outcome: True))
        self.assertEqual(unavoidable(Shop([idle]), lambda outcome: False), ())

    def test_turns_that_avoid_need_not_be_the_least_of_their_web(self):
        shop = Shop([doing(("rest",)), doing(("rest",))])
        first_alone = (("told", (None,)), None)
        self.assertEqual(ways(shop), [(0, 1)])
        self.assertEqual(unavoidable(shop, lambda outcome: outcome[0] == first_alone), (1, 0))

    def test_what_is_no_truth_and_errors(self):
        for ask in (sometimes, unavoidable):
            for wrong in (1, 0, None, "no", [False]):
                self.assertEqual(repr(failure(NotTruth, ask, counting(), lambda outcome: wrong).value), repr(wrong))
            failure(Own, ask, counting(), never_called)
            failure(NotTruth, ask, counting(), lambda outcome: None if number(outcome) == 1 else False)


class Changes(unittest.TestCase):
    def test_fewest_changes(self):
        shop = counting()
        self.assertEqual(fewest_changes(shop, is_lost), (2, (0, 1, 1, 0)))
        self.assertEqual(fewest_changes(shop, lambda outcome: number(outcome) == 2), (1, (0, 0, 1, 1)))
        self.assertEqual(fewest_changes(shop, lambda outcome: True), (1, (0, 0, 1, 1)))
        self.assertIsNone(fewest_changes(shop, lambda outcome: False))

    def test_no_changes(self):
        self.assertEqual(fewest_changes(Shop([idle, idle]), lambda outcome: True), (0, ()))
        self.assertEqual(fewest_changes(Shop([resting(3)]), lambda outcome: True), (0, (0, 0, 0)))
        self.assertEqual(fewest_changes(Shop([idle, resting(2)]), lambda outcome: True), (0, (1, 1)))

    def test_fewer_changes_come_before_less_turns(self):
        shop = Shop([doing(("rest",), ("until", "n", 1)), doing(("put", "n", 1))], cells={"n": 0})
        self.assertEqual(ways(shop), [(0, 1, 0)])
        self.assertEqual(fewest_changes(shop, lambda outcome: True), (1, (1, 0, 0)))

    def test_each_outcome_is_one_to_ask_about(self):
        failure(NotTruth, fewest_changes, counting(), lambda outcome: 1)
        failure(Own, fewest_changes, counting(), never_called)
        self.assertEqual(failure(NotTruth, fewest_changes, counting(),
                                 lambda outcome: None if is_lost(outcome) else False).value, None)


class OwnErrors(unittest.TestCase):
    """[19]: errors that leave works, out of all that asks about all runs."""

    def shops(self, ending):
        def in_all(hand):
            hand.rest()
            return ending()

        def in_some(hand):
            if hand.look("n") == 1:
                return ending()
            return None

        def at_once(hand):
            return ending()

        putting = doing(("put", "n", 1))
        return [Shop([in_all], cells={"n": 0}), Shop([in_some, putting], cells={"n": 0}), Shop([at_once, putting],
                cells={"n": 0}), Shop([putting, in_some, in_all], cells={"n": 0})]

    def test_errors_of_works(self):
        def ending():
            raise Own("of a work")

        for shop in self.shops(ending):
            for call in all_calls(shop, lambda outcome: True):
                self.assertEqual(failure(Own, call).args, ("of a work",))

    def test_what_is_no_value(self):
        for shop in self.shops(lambda: [1]):
            for call in all_calls(shop, lambda outcome: True):
                self.assertEqual(failure(BadValue, call).value, [1])

    def test_errors_of_hands_that_a_work_lets_go_or_takes(self):
        def giving(hand):
            hand.look("n")
            hand.give("a")

        def asking(hand):
            hand.look("n")
            hand.look("none")

        for work, kind in ((giving, NotHeld), (asking, NoThing)):
            def taking(hand, work=work, kind=kind):
                try:
                    work(hand)
                except kind:
                    hand.put("n", 1)

            for call in all_calls(Shop([work], cells={"n": 0}, locks=("a",)), lambda outcome: True):
                failure(kind, call)
            shop = Shop([taking, taking], cells={"n": 0}, locks=("a",))
            self.assertEqual(ways(shop), ways(counting()))

    def test_works_that_take_held_or_act_on_its_way(self):
        def counting_still(hand):
            try:
                number = hand.look("n")
                hand.put("n", number + 1)
            except Held:
                return 5
            finally:
                try:
                    hand.put("n", 7)
                    hand.say(7)
                except Held:
                    pass
            return None

        def count_and_put(hand):
            count(hand)
            hand.put("n", 7)
            hand.say(7)

        shop = Shop([counting_still] * 2, cells={"n": 0})
        other = Shop([count_and_put] * 2, cells={"n": 0})
        self.assertEqual(outcomes(shop), outcomes(other))
        self.assertEqual(ways(shop), ways(other))
        self.assertEqual(clashes(shop), clashes(other))

    def test_errors_that_no_run_comes_to(self):
        def in_none(hand):
            if hand.look("n") == 5:
                raise Own("never")

        shop = Shop([in_none, doing(("put", "n", 1))], cells={"n": 0})
        self.assertEqual(ways(shop), [(0, 1), (1, 0)])


if __name__ == "__main__":
    unittest.main()
