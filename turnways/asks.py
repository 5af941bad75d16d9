"""What is asked about all runs of a shop."""

from turnways.search import all_beginnings, once_each, only_over, verdict, verdicts_on


def ways(shop):
    """List the least turns of the webs of all runs that are over, ascending."""
    return [web.turns() for web in webs(shop)]


def webs(shop):
    """List the webs of all runs that are over, ascending by their least turns."""
    return [begun.web for begun in only_over(all_beginnings(shop))]


def orders(shop):
    """Tell the number of all turns that lead to runs that are over."""
    found = all_beginnings(shop)
    counts = {begun: 0 for begun in found}
    counts[found[0]] = 1
    for begun in found:
        for further in begun.onward.values():
            counts[further] = counts[further] + counts[begun]
    return sum([counts[begun] for begun in only_over(found)])


def beginnings(shop):
    """Tell the number of beginnings."""
    return len(all_beginnings(shop))


def outcomes(shop):
    """List the pairs of an outcome of runs that are over and the least turns to it, ascending by the turns."""
    return once_each([(begun.run.outcome(), begun.web.least) for begun in only_over(all_beginnings(shop))])


def every(shop, test):
    """Tell whether a test is True for all outcomes."""
    for outcome, turns in outcomes(shop):
        if not verdict(test, outcome):
            return False
    return True


def some(shop, test):
    """Tell whether a test is True for an outcome."""
    return first(shop, test) is not None


def first(shop, test):
    """Tell the least turns that lead to an outcome for which a test is True, or None."""
    for outcome, turns in outcomes(shop):
        if verdict(test, outcome):
            return turns
    return None


def sometimes(shop, test):
    """Tell the turns of the nearest beginning for which a test is True, or None."""
    for begun in all_beginnings(shop):
        if verdict(test, begun.run.outcome()):
            return begun.web.least
    return None


def unavoidable(shop, test):
    """Tell the least turns of a run that is over with a test never True on its way; None if there is none."""
    found = all_beginnings(shop)
    # The least turns to each beginning on whose way the test is never True.
    least = {found[0]: ()}
    free = []
    for begun in found:
        if begun not in least or verdict(test, begun.run.outcome()):
            continue
        turns = least[begun]
        if not begun.onward:
            free.append(turns)
        for k, further in begun.onward.items():
            way = (*turns, k)
            least[further] = min(least.get(further, way), way)
    return min(free, default=None)


def fewest_by_last(found):
    """For each beginning a dict: for the work with the last turn, the fewest changes and the least turns with them."""
    fewest = {begun: {} for begun in found}
    fewest[found[0]] = {None: (0, ())}
    for begun in found:
        for last, (changes, turns) in list(fewest[begun].items()):
            for k, further in begun.onward.items():
                more = 0 if last is None or last == k else 1
                way = (changes + more, (*turns, k))
                others = fewest[further]
                others[k] = min(others.get(k, way), way)
    return fewest


def fewest_changes(shop, test):
    """Tell the fewest changes to an outcome that passes a test, and the least turns with them; or None."""
    found = all_beginnings(shop)
    overs = only_over(found)
    fewest = fewest_by_last(found)
    passed = [begun for begun, passes in zip(overs, verdicts_on(overs, test)) if passes]
    return min([way for begun in passed for way in fewest[begun].values()], default=None)
