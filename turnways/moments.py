"""Moments of a web, and the orders that lead through them.

Everything here takes the pasts of a web: for each work, for each of its steps, the past of the step.
"""

from turnways.kinds import is_whole


def holds(moment, past, k):
    """Tell whether the steps of all works but k that a past counts are in a moment."""
    for j, count in enumerate(past):
        if j != k and count > moment[j]:
            return False
    return True


def may_come(pasts, moment, k):
    """Tell whether the next step of work k may come at a moment."""
    return moment[k] < len(pasts[k]) and holds(moment, pasts[k][moment[k]], k)


def one_more(moment, k):
    """The moment behind a further step of work k."""
    return (*moment[:k], moment[k] + 1, *moment[k + 1:])


def all_moments(pasts):
    """List all moments, ascending."""
    none_done = (0,) * len(pasts)
    found = {none_done: True}
    waiting = [none_done]
    while waiting:
        moment = waiting.pop()
        for k in range(len(pasts)):
            if may_come(pasts, moment, k):
                later = one_more(moment, k)
                if later not in found:
                    found[later] = True
                    waiting.append(later)
    return sorted(found)


def is_count(pasts, k, given):
    """Tell whether something is a number of steps that work k has done at some moment."""
    return is_whole(given) and 0 <= given <= len(pasts[k])


def is_moment(pasts, given):
    """Tell whether any object is a moment."""
    if not isinstance(given, tuple) or len(given) != len(pasts):
        return False
    if not all([is_count(pasts, k, count) for k, count in enumerate(given)]):
        return False
    for k, count in enumerate(given):
        if count > 0 and not holds(given, pasts[k][count - 1], k):
            return False
    return True


def count_orders(pasts):
    """Count the orders of a web."""
    moments = all_moments(pasts)
    counts = {moment: 0 for moment in moments}
    counts[moments[0]] = 1
    # A moment is less than all that come behind it, so its own count is whole ahead of theirs.
    for moment in moments:
        for k in range(len(pasts)):
            if may_come(pasts, moment, k):
                later = one_more(moment, k)
                counts[later] = counts[later] + counts[moment]
    return counts[moments[-1]]


def is_order(pasts, given):
    """Tell whether any object is an order of a web."""
    if not isinstance(given, (list, tuple)):
        return False
    moment = (0,) * len(pasts)
    for k in given:
        if not is_whole(k) or not 0 <= k < len(pasts) or not may_come(pasts, moment, k):
            return False
        moment = one_more(moment, k)
    return sum(moment) == sum([len(steps) for steps in pasts])
