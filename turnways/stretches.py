"""Stretches: steps of a work that are left unbroken, side by side."""

from turnways.errors import BadStretch
from turnways.kinds import is_whole
from turnways.moments import holds


def check_stretch(many, stretch):
    """Refuse what is no stretch of one of many works."""
    if not isinstance(stretch, tuple) or len(stretch) != 3 or not all([is_whole(number) for number in stretch]):
        raise BadStretch(stretch)
    k, first, last = stretch
    if not 0 <= k < many or not 0 <= first <= last:
        raise BadStretch(stretch)


def is_tied(stretches, k, i):
    """Tell whether some stretch has both step (k, i) and the next one of work k."""
    return any([work == k and first <= i < last for work, first, last in stretches])


def end_of_block(pasts, stretches, k, i):
    """The last of the steps of work k that stand side by side from step i on, as far as the web has them."""
    while i + 1 < len(pasts[k]) and is_tied(stretches, k, i):
        i += 1
    return i


def blocks_come(pasts, stretches, moment, k):
    """How many steps work k has done behind all the whole blocks that may come at a moment."""
    done = moment[k]
    while done < len(pasts[k]):
        end = end_of_block(pasts, stretches, k, done)
        if not holds(moment, pasts[k][end], k):
            break
        done = end + 1
    return done


def keeps(pasts, stretches):
    """Tell whether some one order of a web with these pasts has the steps of each stretch side by side."""
    moment = [0] * len(pasts)
    stuck = False
    # A block that may come may come later, too, so no choice among the blocks shuts another one out.
    while not stuck:
        stuck = True
        for k in range(len(pasts)):
            done = blocks_come(pasts, stretches, moment, k)
            if done > moment[k]:
                moment[k] = done
                stuck = False
    return sum(moment) == sum([len(steps) for steps in pasts])
