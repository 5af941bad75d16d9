"""Papers that show all webs, what outcomes hang on, and stretches that shut out what is bad."""

from turnways.kinds import is_whole
from turnways.search import all_beginnings, only_over, verdicts_on
from turnways.stretches import check_stretch, keeps


def over_behind(start, row):
    """The beginning, with its run over, to which any object leads as turns; None if it does not."""
    if not isinstance(row, (list, tuple)):
        return None
    begun = start
    for k in row:
        if not is_whole(k) or k not in begun.onward:
            return None
        begun = begun.onward[k]
    return None if begun.onward else begun


def are_all(shop, rows):
    """Tell of any object whether it lists turns, just one order of each web of the runs that are over."""
    found = all_beginnings(shop)
    if not isinstance(rows, (list, tuple)):
        return False
    shown = {}
    for row in rows:
        begun = over_behind(found[0], row)
        if begun is None or begun in shown:
            return False
        shown[begun] = True
    return len(shown) == len(only_over(found))


def all_pairs(web):
    """List the pairs of steps of unlike works with the first before the second."""
    return [
        ((k, i), (row.k, row.i))
        for row in web.rows
        for k, count in enumerate(row.past)
        for i in range(count)
        if k != row.k
    ]


def has_so(web, one, other):
    """Tell whether a web has both steps, the first before the second."""
    j, m = other
    return m < len(web.pasts[j]) and one[1] < web.pasts[j][m][one[0]]


def deciding(shop, test):
    """List the pairs of steps in this order in all webs that pass a test and in no other web."""
    overs = only_over(all_beginnings(shop))
    verdicts = verdicts_on(overs, test)
    passing = [begun.web for begun, passes in zip(overs, verdicts) if passes]
    failing = [begun.web for begun, passes in zip(overs, verdicts) if not passes]
    if not passing or not failing:
        return []
    pairs = all_pairs(passing[0])
    for web in passing:
        pairs = [(one, other) for one, other in pairs if has_so(web, one, other)]
    for web in failing:
        pairs = [(one, other) for one, other in pairs if not has_so(web, one, other)]
    return sorted(pairs)


def checked(shop, stretches):
    """The stretches in a list of their own; refuse the first object that is none."""
    for stretch in stretches:
        check_stretch(shop.many, stretch)
    return list(stretches)


def kept(shop, stretches):
    """List the ways whose webs keep all of these stretches."""
    overs = only_over(all_beginnings(shop))
    asked = checked(shop, stretches)
    return [begun.web.turns() for begun in overs if keeps(begun.web.pasts, asked)]


def all_choices(many):
    """List all ascending lists of many places, by their length, then as Python orders lists."""
    choices = []
    level = [[]]
    while level:
        choices = choices + level
        level = [[*choice, at] for choice in level for at in range(many) if not choice or choice[-1] < at]
    return choices


def is_part(choice, other):
    """Tell whether all places of a choice are places of another one."""
    return all([at in other for at in choice])


def shuts_out(webs, stretches):
    """Tell whether none of the webs keeps these stretches."""
    for web in webs:
        if keeps(web.pasts, stretches):
            return False
    return True


def least_stretches(shop, stretches, test):
    """List the least choices of stretches that shut out all outcomes of which a test tells that they are bad."""
    overs = only_over(all_beginnings(shop))
    asked = checked(shop, stretches)
    bad = [begun.web for begun, is_bad in zip(overs, verdicts_on(overs, test)) if is_bad]
    least = []
    for choice in all_choices(len(asked)):
        if any([is_part(part, choice) for part in least]):
            continue
        if shuts_out(bad, [asked[at] for at in choice]):
            least.append(choice)
    return least
