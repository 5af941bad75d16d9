"""Places: where works stand, found by running them anew."""

from turnways.errors import Held
from turnways.hands import Hand
from turnways.kinds import check_value


class Place:
    """Where a work stands behind its answers: at a wish or at its end, and what it said."""

    def __init__(self, answers, pending, end, words):
        self.answers = answers
        self.pending = pending
        self.end = end
        self.words = words


def returned(work, hand):
    """Run a work with a hand; tell what it returns, None if it was held."""
    try:
        return work(hand)
    except Held:
        # A Held that is not of this hand is an error like any other.
        if not hand.halted:
            raise
    return None


def come(shop, k, answers):
    """Run work k anew with the answers that it had, up to its next wish or its end."""
    hand = Hand(shop, k, answers)
    value = returned(shop.works[k], hand)
    # A work that took Held has come no further, whatever it returned then.
    if not hand.halted:
        check_value(value)
        hand.end = ("told", value)
    return Place(answers, hand.pending, hand.end, tuple(hand.words))
