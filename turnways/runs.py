"""Runs: the works of a shop side by side, step by step."""

from turnways.errors import CanNot, NoWork
from turnways.kinds import check_thing, is_whole
from turnways.places import come
from turnways.things import do_step, first_things, need_not_wait, things_again


def place_of(run, k):
    """The place of work k; refuse what is no number of a work."""
    if not is_whole(k) or not 0 <= k < len(run.places):
        raise NoWork(k)
    return run.places[k]


def can_go(run, place):
    """Tell whether a work that stands there has a wish that need not wait now."""
    return place.pending is not None and need_not_wait(run.things, place.pending)


def in_pairs(table):
    """The pairs of a name and what it stands for, ascending by names."""
    return tuple([(name, table[name]) for name in sorted(table)])


class Run:
    """A run of a shop, at first at its beginning."""

    def __init__(self, shop):
        self.shop = shop
        self.things = first_things(shop)
        self.places = [come(shop, k, ()) for k in range(shop.many)]
        self.done = []

    def wish(self, k):
        """Tell the wish with which work k stands, None at its end."""
        return place_of(self, k).pending

    def can(self):
        """List the numbers of the works whose wish need not wait now."""
        return [k for k, place in enumerate(self.places) if can_go(self, place)]

    def go(self, k):
        """Do the step of work k; tell its answer."""
        place = place_of(self, k)
        if not can_go(self, place):
            raise CanNot(k)
        things = things_again(self.things)
        answer = do_step(things, k, place.pending)
        # The work may raise an error on its way, so nothing of the run changes ahead of it.
        following = come(self.shop, k, place.answers + (answer,))
        self.things = things
        self.places[k] = following
        self.done.append((k, place.pending, answer))
        return answer

    def turns(self):
        """Tell the turns so far."""
        return tuple([k for k, wish, answer in self.done])

    def steps(self):
        """List the steps done."""
        return list(self.done)

    def ends(self):
        """Tell for each work how it ended, None if it did not."""
        return tuple([place.end for place in self.places])

    def cell(self, name):
        """Tell the value of a cell."""
        check_thing(self.things.cells, name)
        return self.things.cells[name]

    def holder(self, name):
        """Tell the number of the work that holds a lock, None if it is free."""
        check_thing(self.things.holders, name)
        return self.things.holders[name]

    def belt(self, name):
        """Tell the values of a belt."""
        check_thing(self.things.rows, name)
        return self.things.rows[name]

    def said(self, k):
        """Tell what work k has said so far."""
        return place_of(self, k).words

    def outcome(self):
        """Tell the ends, the cells, the locks, the belts and what was said."""
        words = tuple([place.words for place in self.places])
        things = self.things
        return self.ends(), in_pairs(things.cells), in_pairs(things.holders), in_pairs(things.rows), words

    def is_over(self):
        """Tell whether no work can go."""
        return not self.can()

    def stands(self):
        """Tell whether no work can go and not all works are at their ends."""
        return self.is_over() and None in self.ends()

    def twin(self):
        """Another run of the same shop that is as this one is now."""
        # The works come to their first wishes once more here, which tells nothing new.
        run = Run(self.shop)
        # A go puts new things in the place of the old ones, so both runs may hold these.
        run.things = self.things
        run.places = list(self.places)
        run.done = list(self.done)
        return run


def replay(shop, turns):
    """Make a run and go these turns."""
    run = Run(shop)
    for k in turns:
        run.go(k)
    return run
