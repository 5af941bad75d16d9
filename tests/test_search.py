"""All answers over many small shops, held against a search of all turns that the tests make by themselves."""

import itertools
import random
import unittest

from brute import AllRuns, extensions, kinded
from pools import guess, small_shops
from turnways.asks import (beginnings, every, fewest_changes, first, orders, outcomes, some, sometimes, unavoidable,
                           ways, webs)
from turnways.errors import NoMoment
from turnways.repairs import are_all, deciding, kept, least_stretches
from turnways.stills import clashes, not_serial, standstills
from turnways.webs import Web

SHOPS = [(shop, AllRuns(shop)) for shop in small_shops()]
GUESSES = [guess(seed) for seed in range(3)]


class Search(unittest.TestCase):
    def each(self):
        self.assertGreater(len(SHOPS), 300)
        return SHOPS

    def assertSame(self, one, other):
        self.assertEqual(kinded(one), kinded(other))


class Promise(Search):
    """[25] holds in this model at all, so that the other answers mean something."""

    def test_orders_of_a_web_are_runs_with_the_same_steps_and_outcome(self):
        for shop, runs in self.each():
            for web in runs.webs.values():
                self.assertEqual(sorted(extensions(web.names, web.pairs)), sorted(web.orders))
                for turns in web.orders:
                    self.assertSame(runs.outcome(turns), web.run.outcome())

    def test_the_shops_show_much(self):
        self.assertGreater(sum([len(runs.over_webs) > 3 for _, runs in SHOPS]), 100)
        self.assertGreater(sum([len(runs.standstills()) > 1 for _, runs in SHOPS]), 20)
        self.assertGreater(sum([runs.not_serial() is not None for _, runs in SHOPS]), 40)
        self.assertGreater(sum([len(runs.clashes()) > 3 for _, runs in SHOPS]), 60)


class Webs(Search):
    def webs(self):
        for shop, runs in self.each():
            for at, own in enumerate(runs.webs.values()):
                # One web of each shop of its own order, so that all lengths are among them.
                turns = own.orders[at % len(own.orders)]
                yield runs, own, Web.of(shop, turns)

    def test_turns_orders_and_steps(self):
        for runs, own, web in self.webs():
            self.assertEqual(web.turns(), own.least())
            self.assertEqual(web.orders(), len(own.orders))
            steps = {}
            for k in own.least():
                steps[k] = steps.get(k, -1) + 1
                self.assertIn((k, steps[k]), own.told)
            names = [(k, own.least()[:at].count(k)) for at, k in enumerate(own.least())]
            self.assertSame(web.steps(), [own.told[name] for name in names])

    def test_has(self):
        for runs, own, web in self.webs():
            for turns in runs.runs:
                self.assertIs(web.has(turns), turns in own.orders)

    def test_before_links_and_layers(self):
        for runs, own, web in self.webs():
            for one in own.names:
                for other in own.names:
                    self.assertIs(web.before(one, other), (one, other) in own.pairs)
            self.assertEqual(web.links(), own.links())
            self.assertEqual(web.layers(), own.layers())

    def test_moments(self):
        for runs, own, web in self.webs():
            moments = own.moments()
            self.assertEqual(web.moments(), moments)
            for other in itertools.product(range(3), repeat=runs.shop.many):
                if other not in moments:
                    self.assertRaises(NoMoment, web.outcome_at, other)
            order = own.orders[-1]
            for at in range(len(order) + 1):
                moment = tuple([order[:at].count(k) for k in range(runs.shop.many)])
                self.assertSame(web.outcome_at(moment), runs.outcome(order[:at]))

    def test_serial_and_ring(self):
        for runs, own, web in self.webs():
            self.assertEqual(web.serial(), own.serial())
            ring = web.ring()
            if own.serial() is not None:
                self.assertIsNone(ring)
                continue
            self.assertGreaterEqual(len(ring), 2)
            self.assertEqual(len(set(ring)), len(ring))
            for k, j in zip(ring, ring[1:] + ring[:1]):
                self.assertTrue(own.has_ahead(k, j))

    def test_unbroken(self):
        for runs, own, web in self.webs():
            for k in range(runs.shop.many):
                for first_one in range(3):
                    for last in range(first_one, 4):
                        stretch = (k, first_one, last)
                        self.assertIs(web.unbroken(*stretch), own.keeps([stretch]))

    def test_equal_webs(self):
        for shop, runs in self.each():
            made = {turns: Web.of(shop, turns) for turns in list(runs.runs)[:40]}
            for turns, web in made.items():
                for others, other in made.items():
                    self.assertIs(web == other, runs.web_of[turns] == runs.web_of[others])
                    self.assertIs(web != other, runs.web_of[turns] != runs.web_of[others])


class Asks(Search):
    def test_ways_webs_orders_and_beginnings(self):
        for shop, runs in self.each():
            self.assertEqual(ways(shop), [web.least() for web in runs.over_webs])
            self.assertEqual(webs(shop), [Web.of(shop, web.orders[-1]) for web in runs.over_webs])
            self.assertEqual([web.steps() for web in webs(shop)],
                             [Web.of(shop, web.least()).steps() for web in runs.over_webs])
            self.assertEqual(orders(shop), len(runs.over))
            self.assertEqual(beginnings(shop), len(runs.webs))

    def test_outcomes(self):
        for shop, runs in self.each():
            self.assertSame(outcomes(shop), runs.outcomes())

    def test_tests_of_outcomes(self):
        for shop, runs in self.each():
            for test in GUESSES:
                truths = [test(outcome) for outcome, _ in runs.outcomes()]
                self.assertIs(every(shop, test), all(truths))
                self.assertIs(some(shop, test), any(truths))
                self.assertEqual(first(shop, test), runs.first(test))
                self.assertEqual(fewest_changes(shop, test), runs.fewest_changes(test))

    def test_tests_of_moments(self):
        for shop, runs in self.each():
            for test in GUESSES:
                self.assertEqual(sometimes(shop, test), runs.sometimes(test))
                self.assertEqual(unavoidable(shop, test), runs.unavoidable(test))


class Stills(Search):
    def test_standstills(self):
        for shop, runs in self.each():
            self.assertSame(standstills(shop), runs.standstills())

    def test_clashes(self):
        for shop, runs in self.each():
            self.assertSame(clashes(shop), runs.clashes())

    def test_not_serial(self):
        for shop, runs in self.each():
            self.assertEqual(not_serial(shop), runs.not_serial())


class Repairs(Search):
    def stretches(self, shop, chance):
        told = []
        for _ in range(chance.randint(1, 3)):
            first_one = chance.randint(0, 1)
            told.append((chance.randrange(shop.many), first_one, first_one + chance.randint(0, 2)))
        return told

    def test_kept_and_least_stretches(self):
        chance = random.Random(8)
        for shop, runs in self.each():
            for test in GUESSES:
                stretches = self.stretches(shop, chance)
                self.assertEqual(kept(shop, stretches), runs.kept(stretches))
                self.assertEqual(least_stretches(shop, stretches, test), runs.least_stretches(stretches, test))

    def test_deciding(self):
        some_pairs = 0
        for shop, runs in self.each():
            for test in GUESSES:
                self.assertEqual(deciding(shop, test), runs.deciding(test))
                some_pairs += len(runs.deciding(test)) > 0
            # A test that parts the runs by one outcome decides more often.
            for one, _ in runs.outcomes():
                def is_this(outcome, one=kinded(one)):
                    return kinded(outcome) == one

                self.assertEqual(deciding(shop, is_this), runs.deciding(is_this))
                some_pairs += len(runs.deciding(is_this)) > 0
        self.assertGreater(some_pairs, 50)

    def test_are_all(self):
        chance = random.Random(9)
        for shop, runs in self.each():
            rows = [chance.choice(web.orders) for web in runs.over_webs]
            chance.shuffle(rows)
            self.assertIs(are_all(shop, rows), True)
            self.assertIs(are_all(shop, tuple([list(row) for row in rows])), True)
            for _ in range(4):
                other = list(rows)
                other[chance.randrange(len(other))] = chance.choice(list(runs.runs))
                self.assertIs(are_all(shop, other), runs.are_all(other))
            self.assertIs(are_all(shop, rows[1:]), False)
            self.assertIs(are_all(shop, rows + rows[:1]), False)


if __name__ == "__main__":
    unittest.main()
