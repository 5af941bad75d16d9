"""The search for all beginnings of a shop, and what tests tell of their outcomes."""

from turnways.errors import Beyond, NotTruth
from turnways.pasts import Step, past_of, place_among, put_among
from turnways.runs import Run
from turnways.webs import Web


class Beginning:
    """A beginning: its web, a run that leads to it, and the beginnings behind its next steps, by works."""

    def __init__(self, web, run):
        self.web = web
        self.run = run
        self.onward = {}


def go_on(begun, k, known):
    """The beginning behind a step of work k: one of those known by their turns, or a new one among them."""
    rows = begun.web.rows
    wish = begun.run.wish(k)
    past = past_of(rows, begun.web.shop.many, k, wish)
    at = place_among(rows, k, past)
    turns = put_among(begun.web.least, at, k)
    if turns not in known:
        run = begun.run.twin()
        answer = run.go(k)
        step = Step(k, past[k], wish, answer, past)
        known[turns] = Beginning(Web(begun.web.shop, put_among(rows, at, step)), run)
    return known[turns]


def level_behind(shop, level, found):
    """The beginnings with one step more than those of a level, ascending; Beyond where they are too many."""
    known = {}
    for begun in level:
        for k in begun.run.can():
            if len(begun.web.rows) == shop.longest:
                raise Beyond()
            begun.onward[k] = go_on(begun, k, known)
            if len(found) + len(known) > shop.most:
                raise Beyond()
    return [known[turns] for turns in sorted(known)]


def all_beginnings(shop):
    """List all beginnings, the nearest ones first: by the number of their turns, then by the turns."""
    level = [Beginning(Web(shop, ()), Run(shop))]
    found = []
    while level:
        found = found + level
        level = level_behind(shop, level, found)
    return found


def turns_of(begun):
    """The least turns of a beginning."""
    return begun.web.least


def only_over(found):
    """List those of the beginnings at which the run is over, ascending by their turns."""
    return sorted([begun for begun in found if not begun.onward], key=turns_of)


def verdict(test, outcome):
    """What a test tells of an outcome; refuse what is no truth."""
    answer = test(outcome)
    if answer is True or answer is False:
        return answer
    raise NotTruth(answer)


def written(told):
    """A text for what is told, the same one for what is the same, and for nothing else."""
    # True and 1 are equal, and so would be one key of a dict, but they are not written alike.
    return repr(told)


def once_each(pairs):
    """List the pairs, of those whose first things are the same only the first one."""
    told = {}
    for pair in pairs:
        told.setdefault(written(pair[0]), pair)
    return list(told.values())


def verdicts_on(overs, test):
    """List what a test tells of the outcome of each of these, asked once for each outcome, in their order."""
    known = {}
    told = []
    for begun in overs:
        outcome = begun.run.outcome()
        text = written(outcome)
        if text not in known:
            known[text] = verdict(test, outcome)
        told.append(known[text])
    return told
