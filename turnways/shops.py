"""Shops: works, the things that they share, and the limits for asking."""

from turnways.errors import BadLimit, BadName, BadSize, BadWorks
from turnways.kinds import check_value, is_whole, is_word

MOST_WORKS = 4
TOP_LONGEST = 40
TOP_MOST = 2000


def check_works(works):
    """Refuse too few and too many works."""
    if not 1 <= len(works) <= MOST_WORKS:
        raise BadWorks(len(works))


def check_names(names):
    """Refuse the first name that is no word or stood already."""
    stood = set()
    for name in names:
        if not is_word(name) or name in stood:
            raise BadName(name)
        stood.add(name)


def check_size(size):
    """Refuse what is no size of a belt."""
    if size is None:
        return
    if not is_whole(size) or size < 1:
        raise BadSize(size)


def check_limit(limit, top):
    """Refuse what is no integer from 1 to the top."""
    if not is_whole(limit) or not 1 <= limit <= top:
        raise BadLimit(limit)


def copied(table):
    """A new dict of what was handed in, where None stands for nothing."""
    if table is None:
        return {}
    return dict(table)


class Shop:
    """Works and their things, as they were handed in; no run changes them."""

    def __init__(self, works, *, cells=None, locks=(), belts=None, longest=24, most=400):
        self.works = tuple(works)
        self.cells = copied(cells)
        self.locks = tuple(locks)
        self.belts = copied(belts)
        check_works(self.works)
        check_names([*self.cells, *self.locks, *self.belts])
        for value in self.cells.values():
            check_value(value)
        for size in self.belts.values():
            check_size(size)
        check_limit(longest, TOP_LONGEST)
        check_limit(most, TOP_MOST)
        self.many = len(self.works)
        self.longest = longest
        self.most = most

    def names(self):
        """List the names of all things, ascending."""
        return sorted([*self.cells, *self.locks, *self.belts])

    def beside(self, other, *, longest=24, most=400):
        """A new shop with the works and the things of both."""
        works = self.works + other.works
        check_works(works)
        others = other.names()
        for name in self.names():
            if name in others:
                raise BadName(name)
        return Shop(
            works,
            cells={**self.cells, **other.cells},
            locks=self.locks + other.locks,
            belts={**self.belts, **other.belts},
            longest=longest,
            most=most,
        )
