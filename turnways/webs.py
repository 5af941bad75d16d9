"""Webs: what is before what in a run, and all the orders of its steps that nobody can tell apart."""

from turnways.errors import NoMoment, NoStep
from turnways.kinds import is_whole
from turnways.lines import line_up, ring_among
from turnways.moments import all_moments, count_orders, is_moment, is_order
from turnways.pasts import Step, past_of, place_among, put_among
from turnways.runs import replay
from turnways.stretches import check_stretch, keeps


def check_step(pasts, given):
    """Refuse what is no step of a web with these pasts."""
    if not isinstance(given, tuple) or len(given) != 2 or not all([is_whole(number) for number in given]):
        raise NoStep(given)
    k, i = given
    if not 0 <= k < len(pasts) or not 0 <= i < len(pasts[k]):
        raise NoStep(given)


def last_ones(past):
    """List the last step of each work among those that a past counts."""
    return [(k, count - 1) for k, count in enumerate(past) if count > 0]


def is_link(pasts, one, others):
    """Tell whether a step is before none of the others."""
    k, i = one
    return not any([i < pasts[j][m][k] for j, m in others])


def links_to(pasts, k, i):
    """List the steps of other works that are linked to step (k, i)."""
    # A step between two others is no later than the last one of its work.
    nearest = last_ones(pasts[k][i])
    return [one for one in nearest if one[0] != k and is_link(pasts, one, nearest)]


def layer_of(layers, past):
    """The number of the layer of a step with this past, where those before it stand already."""
    earlier = last_ones(past)
    return max([at + 1 for at, steps in enumerate(layers) for step in steps if step in earlier], default=0)


class Web:
    """The web of a run, made of its steps in the order of the least turns."""

    def __init__(self, shop, rows):
        self.shop = shop
        self.rows = rows
        self.least = tuple([step.k for step in rows])
        self.pasts = [[step.past for step in rows if step.k == k] for k in range(shop.many)]

    @staticmethod
    def of(shop, turns):
        """The web of the run behind these turns."""
        rows = ()
        for k, wish, answer in replay(shop, turns).steps():
            past = past_of(rows, shop.many, k, wish)
            rows = put_among(rows, place_among(rows, k, past), Step(k, past[k], wish, answer, past))
        return Web(shop, rows)

    def __eq__(self, other):
        # The least turns tell the run, and the run all steps and what is before them.
        return isinstance(other, Web) and self.shop == other.shop and self.least == other.least

    def turns(self):
        """Tell the least turns."""
        return self.least

    def has(self, turns):
        """Tell whether any object is one of the orders."""
        return is_order(self.pasts, turns)

    def orders(self):
        """Tell how many orders there are."""
        return count_orders(self.pasts)

    def steps(self):
        """List the steps with their wishes and answers, in the order of the least turns."""
        return [(step.k, step.i, step.wished, step.answered) for step in self.rows]

    def before(self, one, other):
        """Tell whether a step is before another one."""
        check_step(self.pasts, one)
        check_step(self.pasts, other)
        return one[1] < self.pasts[other[0]][other[1]][one[0]]

    def links(self):
        """List the pairs of steps of unlike works with the first before the second and nothing between."""
        return sorted([(one, (row.k, row.i)) for row in self.rows for one in links_to(self.pasts, row.k, row.i)])

    def layers(self):
        """List the steps in layers, each step behind all layers that have a step before it."""
        layers = []
        for row in self.rows:
            at = layer_of(layers, row.past)
            if at == len(layers):
                layers.append([])
            layers[at].append((row.k, row.i))
        return [sorted(steps) for steps in layers]

    def moments(self):
        """List all moments, ascending."""
        return all_moments(self.pasts)

    def outcome_at(self, moment):
        """Tell the outcome of a run at a moment."""
        if not is_moment(self.pasts, moment):
            raise NoMoment(moment)
        return replay(self.shop, [row.k for row in self.rows if row.i < moment[row.k]]).outcome()

    def serial(self):
        """Tell the least list of the works that, each whole, make an order; None if there is none."""
        line, left = line_up(self.pasts)
        return None if left else line

    def ring(self):
        """Tell a ring of works, each with a step before one of the next; None if there is a serial order."""
        left = line_up(self.pasts)[1]
        return ring_among(self.pasts, left) if left else None

    def unbroken(self, k, first, last):
        """Tell whether some order has these steps of work k side by side, as far as there are any."""
        check_stretch(self.shop.many, (k, first, last))
        return keeps(self.pasts, [(k, first, last)])
