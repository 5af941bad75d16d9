"""Papers and repairs: [42] to [45]."""

import itertools
import unittest

from helpers import doing, failure, idle
from turnways.asks import ways
from turnways.errors import BadStretch, Beyond, NotTruth
from turnways.repairs import are_all, deciding, kept, least_stretches
from turnways.shops import Shop


class Own(Exception):
    """An error of the caller."""


def count(hand):
    number = hand.look("n")
    hand.put("n", number + 1)


def counting(many=2, **limits):
    return Shop([count] * many, cells={"n": 0}, **limits)


def number(outcome):
    return dict(outcome[1])["n"]


def is_lost(outcome):
    return number(outcome) == 1


def raising(outcome):
    raise Own("the test was called")


class Papers(unittest.TestCase):
    def test_all_of_them_in_any_order(self):
        shop = counting()
        rows = [(0, 0, 1, 1), (1, 0, 0, 1), (1, 0, 1, 0), (1, 1, 0, 0)]
        for given in itertools.permutations(rows):
            self.assertIs(are_all(shop, list(given)), True)
            self.assertIs(are_all(shop, given), True)
        self.assertIs(are_all(shop, [list(row) for row in rows]), True)
        self.assertIs(are_all(rows=ways(shop), shop=shop), True)
        self.assertEqual(rows[1], (1, 0, 0, 1))

    def test_what_is_lacking_or_too_much(self):
        shop = counting()
        rows = ways(shop)
        for at in range(len(rows)):
            self.assertIs(are_all(shop, rows[:at] + rows[at + 1:]), False)
            self.assertIs(are_all(shop, rows + [rows[at]]), False)
            self.assertIs(are_all(shop, rows[:at] + rows[at + 1:] + [rows[at - 1]]), False)
        self.assertIs(are_all(shop, rows + [(1, 0, 0, 1)]), False)
        self.assertIs(are_all(shop, [(0, 0, 1, 1), (1, 0, 0, 1), (0, 1, 0, 1), (1, 1, 0, 0)]), False)
        self.assertIs(are_all(shop, []), False)

    def test_wrong_rows(self):
        shop = counting()
        rows = ways(shop)
        wrong = [(0, 0, 1), (0, 0, 1, 1, 1), (), (0, 0, 1, 2), (False, False, True, True), (0, 0, 1, True), None, 5, "0011",
                 {0: 0}, (0, 0, 1, None), (0, 0, 1, [1]), (0, 0, 1, 1.0), (0, 0, 1, -1), [(0, 0, 1, 1)], b"\x00\x00\x01\x01"]
        for row in wrong:
            self.assertIs(are_all(shop, [row] + rows[1:]), False)
            self.assertIs(are_all(shop, rows[1:] + [row]), False)

    def test_any_object(self):
        shop = counting()
        for given in (None, 5, "rows", {}, {row: True for row in ways(shop)}, set(ways(shop)), object(), iter(ways(shop)),
                      True, shop, ()):
            self.assertIs(are_all(shop, given), False)

    def test_shops_without_steps(self):
        shop = Shop([idle])
        self.assertIs(are_all(shop, [()]), True)
        self.assertIs(are_all(shop, ([],)), True)
        self.assertIs(are_all(shop, []), False)
        self.assertIs(are_all(shop, [(), ()]), False)

    def test_standstills_are_over(self):
        shop = Shop([doing(("rest",), ("until", "n", 5))], cells={"n": 0})
        self.assertIs(are_all(shop, [(0,)]), True)
        self.assertIs(are_all(shop, [()]), False)


class Deciding(unittest.TestCase):
    def test_neither_look_decides(self):
        self.assertEqual(deciding(counting(), is_lost), [])
        self.assertEqual(deciding(counting(3), is_lost), [])

    def test_one_pair(self):
        shop = Shop([doing(("put", "n", 1)), doing(("put", "n", 2))], cells={"n": 0})
        self.assertEqual(deciding(shop, lambda outcome: number(outcome) == 2), [((0, 0), (1, 0))])
        self.assertEqual(deciding(test=lambda outcome: number(outcome) == 1, shop=shop), [((1, 0), (0, 0))])

    def test_pairs_ascend_and_steps_of_one_work_are_none(self):
        shop = Shop([doing(("rest",), ("put", "n", 1)), doing(("put", "n", 2), ("rest",))], cells={"n": 0})
        self.assertEqual(deciding(shop, lambda outcome: number(outcome) == 2),
                         [((0, 0), (1, 0)), ((0, 0), (1, 1)), ((0, 1), (1, 0)), ((0, 1), (1, 1))])

    def test_three_works(self):
        shop = Shop([doing(("put", "n", 1)), doing(("put", "n", 2)), doing(("put", "m", 1))], cells={"n": 0, "m": 0})
        self.assertEqual(deciding(shop, lambda outcome: number(outcome) == 2), [((0, 0), (1, 0))])
        shop = Shop([doing(("put", "n", k)) for k in range(3)], cells={"n": 9})
        self.assertEqual(deciding(shop, lambda outcome: number(outcome) == 2), [])

    def test_steps_that_a_web_lacks(self):
        def saying(hand):
            if hand.look("n") == 1:
                hand.look("n")
                hand.say(2)

        def looked_twice(outcome):
            return outcome[4] == ((2,), ())

        shop = Shop([saying, doing(("put", "n", 1))], cells={"n": 0})
        self.assertEqual(deciding(shop, looked_twice), [((1, 0), (0, 0)), ((1, 0), (0, 1))])
        self.assertEqual(deciding(shop, lambda outcome: not looked_twice(outcome)), [((0, 0), (1, 0))])

    def test_a_pair_must_be_in_all_webs_that_pass(self):
        shop = Shop([doing(("put", "n", k)) for k in range(3)], cells={"n": 9})
        self.assertEqual(deciding(shop, lambda outcome: number(outcome) != 0), [])
        shop = Shop([doing(("put", "n", 1)), doing(("put", "n", 2)), doing(("swap", "m", 1)), doing(("swap", "m", 2))],
                    cells={"n": 0, "m": 0})
        self.assertEqual(deciding(shop, lambda outcome: number(outcome) == 2), [((0, 0), (1, 0))])

    def test_no_web_passes_or_all_do(self):
        shop = Shop([doing(("put", "n", 1)), doing(("put", "n", 2))], cells={"n": 0})
        self.assertEqual(deciding(shop, lambda outcome: True), [])
        self.assertEqual(deciding(shop, lambda outcome: False), [])
        self.assertEqual(deciding(Shop([idle]), lambda outcome: True), [])
        self.assertEqual(deciding(Shop([doing(("put", "n", 1))], cells={"n": 0}), lambda outcome: True), [])
        until = Shop([doing(("put", "n", 1)), doing(("until", "n", 1))], cells={"n": 0})
        self.assertEqual(deciding(until, lambda outcome: True), [])
        self.assertEqual(deciding(until, lambda outcome: False), [])

    def test_the_test_is_called_with_every_outcome(self):
        for answers in ((True, True), (False, False), (True, False), (False, True)):
            seen = []

            def test(outcome, seen=seen, answers=answers):
                seen.append(number(outcome))
                return answers[number(outcome) - 1]

            deciding(counting(), test)
            self.assertEqual(sorted(seen), [1, 2])

    def test_what_is_no_truth_and_errors(self):
        for wrong in (1, 0, None, "no", [True]):
            self.assertEqual(repr(failure(NotTruth, deciding, counting(), lambda outcome: wrong).value), repr(wrong))
        for at in (1, 2):
            failure(NotTruth, deciding, counting(), lambda outcome: None if number(outcome) == at else True)
        failure(Own, deciding, counting(), raising)


BAD = [(2, 0, 1), (-1, 0, 1), (0, 1, 0), (0, -1, 0), [0, 0, 1], (True, 0, 1), (0, False, 1), (0, 0, True), (0, 0),
       (0, 0, 1, 1), (), None, 5, "abc", ("a", 0, 1), (0, None, 1), ((0, 0, 1),)]


class Kept(unittest.TestCase):
    def test_one_stretch(self):
        shop = counting()
        self.assertEqual(kept(shop, [(0, 0, 1)]), [(0, 0, 1, 1), (0, 1, 0, 1), (1, 1, 0, 0)])
        self.assertEqual(kept(shop, [(1, 0, 1)]), [(0, 0, 1, 1), (0, 1, 1, 0), (1, 1, 0, 0)])
        self.assertEqual(kept(stretches=[(0, 0, 99)], shop=shop), kept(shop, [(0, 0, 1)]))

    def test_one_order_must_keep_them_all(self):
        shop = counting()
        self.assertEqual(kept(shop, [(0, 0, 1), (1, 0, 1)]), [(0, 0, 1, 1), (1, 1, 0, 0)])
        works = [doing(("put", "x", 1), ("look", "y")), doing(("put", "y", 1), ("look", "x"))]
        shop = Shop(works, cells={"x": 0, "y": 0})
        # Each of the two works can be whole in the web of (0, 1, 0, 1), but not in one order of it.
        self.assertIn((0, 1, 0, 1), ways(shop))
        self.assertIn((0, 1, 0, 1), kept(shop, [(0, 0, 1)]))
        self.assertIn((0, 1, 0, 1), kept(shop, [(1, 0, 1)]))
        self.assertNotIn((0, 1, 0, 1), kept(shop, [(0, 0, 1), (1, 0, 1)]))

    def test_no_stretches(self):
        shop = counting()
        self.assertEqual(kept(shop, []), ways(shop))
        self.assertEqual(kept(shop, ()), ways(shop))

    def looks_between(self):
        row = [("put", "n", 1), ("put", "n", 2), ("put", "n", 3)]
        return Shop([doing(*row), doing(("look", "n"))], cells={"n": 0})

    def test_stretches_that_overlap(self):
        shop = self.looks_between()
        self.assertEqual(kept(shop, [(0, 0, 1)]), [(0, 0, 0, 1), (0, 0, 1, 0), (1, 0, 0, 0)])
        self.assertEqual(kept(shop, [(0, 0, 1), (0, 1, 2)]), [(0, 0, 0, 1), (1, 0, 0, 0)])
        self.assertEqual(kept(shop, [(0, 1, 2), (0, 0, 1)]), [(0, 0, 0, 1), (1, 0, 0, 0)])
        self.assertEqual(kept(shop, [(0, 0, 2), (0, 1, 1)]), [(0, 0, 0, 1), (1, 0, 0, 0)])

    def test_stretches_beside_one_another_of_one_work(self):
        shop = Shop([doing(*[("put", "n", k) for k in range(4)]), doing(("look", "n"))], cells={"n": 0})
        self.assertEqual(kept(shop, [(0, 0, 1), (0, 2, 3)]), [(0, 0, 0, 0, 1), (0, 0, 1, 0, 0), (1, 0, 0, 0, 0)])

    def test_stretches_that_are_alike_or_single_or_beyond(self):
        shop = self.looks_between()
        self.assertEqual(kept(shop, [(0, 0, 1), (0, 0, 1)]), kept(shop, [(0, 0, 1)]))
        self.assertEqual(kept(shop, [(0, 1, 1), (1, 0, 0)]), ways(shop))
        self.assertEqual(kept(shop, [(0, 3, 9), (1, 1, 2)]), ways(shop))
        self.assertEqual(kept(shop, [(0, 1, 10 ** 11)]), kept(shop, [(0, 1, 2)]))

    def test_bad_stretches(self):
        for bad in BAD:
            error = failure(BadStretch, kept, counting(), [(0, 0, 1), bad, (9, 9, 9)])
            self.assertEqual(repr(error.stretch), repr(bad))
            failure(Beyond, kept, counting(most=1), [bad])
        bad = [0, 0, 1]
        self.assertIs(failure(BadStretch, kept, counting(), [bad]).stretch, bad)


class LeastStretches(unittest.TestCase):
    def test_both_are_needed(self):
        shop = counting()
        stretches = [(0, 0, 1), (1, 0, 1)]
        self.assertEqual(least_stretches(shop, stretches, is_lost), [[0, 1]])
        self.assertEqual(stretches, [(0, 0, 1), (1, 0, 1)])
        self.assertEqual(least_stretches(test=is_lost, stretches=tuple(stretches), shop=shop), [[0, 1]])

    def test_nothing_bad_needs_nothing(self):
        shop = counting()
        self.assertEqual(least_stretches(shop, [(0, 0, 1)], lambda outcome: False), [[]])
        self.assertEqual(least_stretches(shop, [], lambda outcome: False), [[]])

    def test_what_nothing_shuts_out(self):
        shop = counting()
        self.assertEqual(least_stretches(shop, [(0, 0, 1), (1, 0, 1)], lambda outcome: True), [])
        self.assertEqual(least_stretches(shop, [], is_lost), [])
        self.assertEqual(least_stretches(shop, [(0, 0, 1)], is_lost), [])

    def test_choices_by_length_then_as_lists(self):
        shop = counting()
        one, other = (0, 0, 1), (1, 0, 1)
        self.assertEqual(least_stretches(shop, [one, one, other], is_lost), [[0, 2], [1, 2]])
        self.assertEqual(least_stretches(shop, [other, one, one, other], is_lost), [[0, 1], [0, 2], [1, 3], [2, 3]])

    def test_a_shorter_choice_comes_first(self):
        works = [doing(("put", "n", 1), ("put", "n", 2), ("put", "n", 3)), doing(("trade", "n", 1, 9), ("rest",))]
        shop = Shop(works, cells={"n": 0})

        def is_traded(outcome):
            return outcome[0][1] == ("told", (True, None))

        self.assertEqual(least_stretches(shop, [(1, 0, 1), (0, 0, 1), (0, 0, 2), (0, 1, 2)], is_traded), [[1], [2]])

    def test_changes_in_the_test_have_no_effect(self):
        stretches = [(0, 0, 1), (1, 0, 1)]

        def test(outcome):
            stretches.clear()
            return is_lost(outcome)

        self.assertEqual(least_stretches(counting(), stretches, test), [[0, 1]])

    def test_lists_are_new(self):
        shop = counting()
        told = least_stretches(shop, [(0, 0, 1), (1, 0, 1)], is_lost)
        told[0].append(5)
        told.append([7])
        self.assertEqual(least_stretches(shop, [(0, 0, 1), (1, 0, 1)], is_lost), [[0, 1]])

    def test_bad_stretches_ahead_of_tests_and_behind_beyond(self):
        for bad in BAD:
            error = failure(BadStretch, least_stretches, counting(), [(0, 0, 1), bad, (9, 9, 9)], raising)
            self.assertEqual(repr(error.stretch), repr(bad))
            failure(Beyond, least_stretches, counting(most=1), [bad], raising)
        self.assertEqual(failure(BadStretch, least_stretches, counting(), [(0, 5, 1)], lambda outcome: 1).stretch, (0, 5, 1))

    def test_what_is_no_truth_and_errors(self):
        stretches = [(0, 0, 1), (1, 0, 1)]
        for wrong in (1, 0, None, "no", [True]):
            error = failure(NotTruth, least_stretches, counting(), stretches, lambda outcome: wrong)
            self.assertEqual(repr(error.value), repr(wrong))
        failure(Own, least_stretches, counting(), stretches, raising)


if __name__ == "__main__":
    unittest.main()
