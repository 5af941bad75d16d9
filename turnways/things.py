"""Things of a run: what they are now, which wishes must wait, what steps do to them."""

from turnways.kinds import same


class Things:
    """The cells with their values, the locks with their holders, the belts with their rows."""

    def __init__(self, cells, holders, rows, sizes):
        self.cells = cells
        self.holders = holders
        self.rows = rows
        self.sizes = sizes


def first_things(shop):
    """The things of a shop at the beginning of a run."""
    holders = {lock: None for lock in shop.locks}
    rows = {belt: () for belt in shop.belts}
    return Things(dict(shop.cells), holders, rows, shop.belts)


def things_again(things):
    """Things that are as these are now, and change without them."""
    return Things(dict(things.cells), dict(things.holders), dict(things.rows), things.sizes)


def has_room(things, belt):
    """Tell whether a belt has fewer values than its size."""
    size = things.sizes[belt]
    return size is None or len(things.rows[belt]) < size


def need_not_wait(things, wish):
    """Tell whether a wish can be done now."""
    word = wish[0]
    if word == "until":
        return same(things.cells[wish[1]], wish[2])
    if word == "take":
        return things.holders[wish[1]] is None
    if word == "lay":
        return has_room(things, wish[1])
    if word == "fetch":
        return len(things.rows[wish[1]]) > 0
    return True


def do_nothing(things, k, wish):
    """A step that changes nothing and has no answer: rest and until."""
    return None


def do_look(things, k, wish):
    """The step of a look."""
    return things.cells[wish[1]]


def do_put(things, k, wish):
    """The step of a put."""
    things.cells[wish[1]] = wish[2]


def do_swap(things, k, wish):
    """The step of a swap."""
    was = things.cells[wish[1]]
    things.cells[wish[1]] = wish[2]
    return was


def do_trade(things, k, wish):
    """The step of a trade."""
    if not same(things.cells[wish[1]], wish[2]):
        return False
    things.cells[wish[1]] = wish[3]
    return True


def do_take(things, k, wish):
    """The step of a take."""
    things.holders[wish[1]] = k


def do_give(things, k, wish):
    """The step of a give."""
    things.holders[wish[1]] = None


def do_reach(things, k, wish):
    """The step of a reach."""
    if things.holders[wish[1]] is not None:
        return False
    things.holders[wish[1]] = k
    return True


def do_lay(things, k, wish):
    """The step of a lay."""
    things.rows[wish[1]] = things.rows[wish[1]] + (wish[2],)


def do_fetch(things, k, wish):
    """The step of a fetch."""
    row = things.rows[wish[1]]
    things.rows[wish[1]] = row[1:]
    return row[0]


STEPS = {
    "look": do_look,
    "put": do_put,
    "swap": do_swap,
    "trade": do_trade,
    "until": do_nothing,
    "take": do_take,
    "give": do_give,
    "reach": do_reach,
    "lay": do_lay,
    "fetch": do_fetch,
    "rest": do_nothing,
}


def do_step(things, k, wish):
    """Change the things as the wish of work k does; tell the answer."""
    action = STEPS[wish[0]]
    return action(things, k, wish)
