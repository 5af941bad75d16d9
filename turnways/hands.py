"""Hands: through them works wish, say and fail."""

from turnways.errors import Held, NotHeld
from turnways.kinds import check_thing, check_value


def check_going(hand):
    """Behind the first Held there is nothing but Held again."""
    if hand.halted:
        raise Held()


def check_call(hand, names, name, *given):
    """Refuse a call, with the errors in the order that the document gives."""
    check_going(hand)
    check_thing(names, name)
    for value in given:
        check_value(value)


def halt(hand):
    """End this run of the work."""
    hand.halted = True
    raise Held()


def ask(hand, wish):
    """Give the answer that this wish had, or end the run of the work with it."""
    if hand.asked == len(hand.answers):
        hand.pending = wish
        halt(hand)
    answer = hand.answers[hand.asked]
    hand.asked += 1
    return answer


class Hand:
    """The hand of one work for one run of it, with the answers that the work had."""

    def __init__(self, shop, me, answers):
        self.me = me
        self.shop = shop
        self.answers = answers
        self.asked = 0
        # Only a work itself takes and gives its locks, so its answers tell which it holds.
        self.mine = {}
        self.words = []
        self.pending = None
        self.end = None
        self.halted = False

    def look(self, cell):
        """Wish for the value of a cell."""
        check_call(self, self.shop.cells, cell)
        return ask(self, ("look", cell))

    def put(self, cell, value):
        """Wish to put a value into a cell."""
        check_call(self, self.shop.cells, cell, value)
        return ask(self, ("put", cell, value))

    def swap(self, cell, value):
        """Wish to put a value into a cell, for the one that was there."""
        check_call(self, self.shop.cells, cell, value)
        return ask(self, ("swap", cell, value))

    def trade(self, cell, old, value):
        """Wish to put a value into a cell if the same as old is there."""
        check_call(self, self.shop.cells, cell, old, value)
        return ask(self, ("trade", cell, old, value))

    def until(self, cell, value):
        """Wish to wait until the same as a value is in a cell."""
        check_call(self, self.shop.cells, cell, value)
        return ask(self, ("until", cell, value))

    def take(self, lock):
        """Wish to hold a lock, waiting until it is free."""
        check_call(self, self.shop.locks, lock)
        answer = ask(self, ("take", lock))
        self.mine[lock] = True
        return answer

    def give(self, lock):
        """Wish to make a lock free that the work holds."""
        check_call(self, self.shop.locks, lock)
        if not self.mine.get(lock, False):
            raise NotHeld(lock)
        answer = ask(self, ("give", lock))
        self.mine[lock] = False
        return answer

    def reach(self, lock):
        """Wish to hold a lock if it is free."""
        check_call(self, self.shop.locks, lock)
        answer = ask(self, ("reach", lock))
        if answer:
            self.mine[lock] = True
        return answer

    def lay(self, belt, value):
        """Wish to lay a value on a belt, waiting until there is room."""
        check_call(self, self.shop.belts, belt, value)
        return ask(self, ("lay", belt, value))

    def fetch(self, belt):
        """Wish for the first value of a belt, waiting until there is one."""
        check_call(self, self.shop.belts, belt)
        return ask(self, ("fetch", belt))

    def rest(self):
        """Wish for nothing."""
        check_going(self)
        return ask(self, ("rest",))

    def say(self, value):
        """Note a value among what the work has said; this is no wish."""
        check_going(self)
        check_value(value)
        self.words.append(value)

    def fail(self, value):
        """End the work: it has failed with a value."""
        check_going(self)
        check_value(value)
        self.end = ("failed", value)
        halt(self)
