"""Many small shops, the same ones each time."""

import random

from turnways.errors import NotHeld
from turnways.shops import Shop

CELLS = {"x": 0, "y": (1, True)}
LOCKS = ("a", "b")
BELTS = {"p": 1, "q": None}

WISHES = [
    ("look", "x"), ("look", "x"), ("put", "x", 1), ("put", "x", True), ("swap", "x", 2), ("trade", "x", 0, 1),
    ("trade", "x", True, 0), ("until", "x", 1), ("until", "x", True),
    ("look", "y"), ("look", "y"), ("put", "y", 0), ("swap", "y", (0, False)), ("trade", "y", (1, True), (1, 1)),
    ("until", "y", (1, 1)),
    ("take", "a"), ("take", "a"), ("give", "a"), ("give", "a"), ("reach", "a"), ("reach", "a"),
    ("take", "b"), ("take", "b"), ("give", "b"), ("give", "b"), ("reach", "b"),
    ("lay", "p", 1), ("lay", "p", True), ("fetch", "p"),
    ("lay", "q", 0), ("lay", "q", (0, "a")), ("fetch", "q"),
    ("rest",),
]


def trying(*wishes):
    """A work that makes these wishes but those to give what it does not hold, and says and tells its answers."""

    def work(hand):
        answers = []
        for name, *given in wishes:
            try:
                answers.append(getattr(hand, name)(*given))
            except NotHeld:
                pass
        hand.say(len(answers))
        return tuple(answers)

    return work


def branching(*wishes):
    """A work whose next wishes hang on its answers: behind an answer that is a false one it skips a wish."""

    def work(hand):
        answer = 1
        for name, *given in wishes:
            if not answer:
                answer = 1
                continue
            try:
                answer = getattr(hand, name)(*given)
            except NotHeld:
                hand.fail(hand.me)
        return answer

    return work


def shop_of(chance, many, most):
    """A shop of many works, each of at most so many wishes, all over few things."""
    things = chance.sample((*CELLS, *LOCKS, *BELTS), chance.choice((1, 1, 1, 2, 3)))
    wishes = [wish for wish in WISHES if wish[1:2] == () or wish[1] in things]
    if chance.random() < 0.6:
        wishes = [wish for wish in wishes if wish[0] not in ("until", "take", "fetch", "rest")] or wishes
    works = []
    for _ in range(many):
        row = [chance.choice(wishes) for _ in range(chance.choice((most - 1, most, most, most, most)))]
        works.append(chance.choice((trying, trying, branching))(*row))
    return Shop(works, cells=CELLS, locks=LOCKS, belts=BELTS)


def small_shops():
    """Two works of up to three wishes, three of up to two, and some of one and of four works."""
    chance = random.Random(5)
    sizes = [(2, 3)] * 180 + [(3, 2)] * 140 + [(1, 3)] * 6 + [(4, 1)] * 24
    return [shop_of(chance, many, most) for many, most in sizes]


def guess(seed):
    """A test of outcomes that is True of some, with no pattern to it."""

    def test(outcome):
        return sum([ord(sign) * at for at, sign in enumerate(repr(outcome), seed)]) % (seed + 2) == 0

    return test
