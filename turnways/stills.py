"""Standstills, rings of locks, clashes, and what is not serial."""

from turnways.asks import webs
from turnways.pasts import touches
from turnways.search import all_beginnings, once_each, only_over


def all_wishes(run):
    """The wish with which each work stands, None for one at its end."""
    return tuple([run.wish(k) for k in range(run.shop.many)])


def standstills(shop):
    """List the pairs of the wishes in a standstill and the least turns to it, ascending by the turns."""
    overs = only_over(all_beginnings(shop))
    return once_each([(all_wishes(begun.run), begun.web.least) for begun in overs if begun.run.stands()])


def stopped_by(run, k):
    """The work that holds the lock that work k wishes to take, or None."""
    wish = run.wish(k)
    if wish is None or wish[0] != "take":
        return None
    return run.holder(wish[1])


def ring_of(run):
    """Tell the first ring of works that each wish to take a lock that the next one holds, or None."""
    for k in range(run.shop.many):
        ring = [k]
        further = stopped_by(run, k)
        while further is not None and further not in ring:
            ring.append(further)
            further = stopped_by(run, further)
        # A way into a ring that does not begin in it ends at another work.
        if further == k:
            return ring
    return None


def clashes_at(begun):
    """List the works k and j with their wishes that can both go here, and would touch."""
    run = begun.run
    going = [(k, run.wish(k)) for k in run.can()]
    return [
        (k, wish, j, other)
        for k, wish in going
        for j, other in going
        if k < j and touches(wish, other)
    ]


def clashes(shop):
    """List the clashes, each with the turns of the nearest beginning at which it is."""
    found = all_beginnings(shop)
    told = once_each([(clash, begun.web.least) for begun in found for clash in clashes_at(begun)])
    return [(turns, *clash) for clash, turns in told]


def not_serial(shop):
    """Tell the first of the ways whose web has no serial order, or None."""
    for web in webs(shop):
        if web.serial() is None:
            return web.turns()
    return None
