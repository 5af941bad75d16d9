"""All runs of a shop, searched turn by turn with Run, and answers by the plain words of the document.

Nothing here uses webs, asks, stills or repairs, so their answers can be held against these.
"""

import itertools

from turnways.runs import Run

LOOKS = ("look", "until")


def kinded(told):
    """What is told with the kind of each thing in it: equal for what is the same alone."""
    if isinstance(told, (tuple, list)):
        return tuple([kinded(inner) for inner in told])
    return type(told).__name__, told


def touch(wish, other):
    return wish[1:2] == other[1:2] != () and not (wish[0] in LOOKS and other[0] in LOOKS)


def numbered(steps):
    """The steps (k, i) of steps done, in the order in which they were done."""
    counts = {}
    told = []
    for k, _, _ in steps:
        told.append((k, counts.get(k, 0)))
        counts[k] = counts.get(k, 0) + 1
    return told


def pairs_before(steps):
    """All pairs of steps with the first before the second, as the document says what before is."""
    names = numbered(steps)
    pairs = set()
    for late in range(len(steps)):
        for early in range(late):
            if steps[early][0] == steps[late][0] or touch(steps[early][1], steps[late][1]):
                pairs.add((names[early], names[late]))
    size = -1
    while size != len(pairs):
        size = len(pairs)
        pairs |= {(one, three) for one, two in pairs for again, three in pairs if two == again}
    return frozenset(pairs)


def extensions(names, pairs):
    """All orders of these steps in which none comes ahead of one that is before it, as turns."""
    if not names:
        yield ()
    for step in names:
        if not any((other, step) in pairs for other in names):
            for rest in extensions([name for name in names if name != step], pairs):
                yield (step[0], *rest)


def side_by_side(order, stretches):
    """Tell whether turns have the steps of each stretch, as far as they have them, side by side."""
    names = numbered([(k, None, None) for k in order])
    for k, first, last in stretches:
        places = [place for place, (j, i) in enumerate(names) if j == k and first <= i <= last]
        if places and places[-1] - places[0] + 1 != len(places):
            return False
    return True


def changes(turns):
    return sum([one != other for one, other in zip(turns, turns[1:])])


class OneWeb:
    """A web as the document says it: steps, what is before what, and all turns that lead to it."""

    def __init__(self, run):
        steps = run.steps()
        names = numbered(steps)
        self.run = run
        self.names = names
        self.pairs = pairs_before(steps)
        self.told = {name: (*name, wish, answer) for name, (_, wish, answer) in zip(names, steps)}
        self.orders = []

    def key(self):
        return frozenset([(name, kinded(told)) for name, told in self.told.items()]), self.pairs

    def least(self):
        return min(self.orders)

    def has_ahead(self, k, j):
        return any(one[0] == k and other[0] == j for one, other in self.pairs)

    def is_over(self):
        return self.run.is_over()

    def keeps(self, stretches):
        return any(side_by_side(order, stretches) for order in self.orders)

    def serial(self):
        for line in itertools.permutations(range(self.run.shop.many)):
            if tuple(sorted(self.least(), key=line.index)) in self.orders:
                return list(line)
        return None

    def moments(self):
        many = range(self.run.shop.many)
        return sorted({tuple([order[:at].count(k) for k in many]) for order in self.orders
                       for at in range(len(order) + 1)})

    def links(self):
        return sorted([(one, other) for one, other in self.pairs if one[0] != other[0]
                       and not any((one, step) in self.pairs and (step, other) in self.pairs for step in self.names)])

    def layers(self):
        level = {}
        for step in numbered([(k, None, None) for k in self.least()]):
            level[step] = max([level[other] + 1 for other in level if (other, step) in self.pairs], default=0)
        return [sorted([step for step in level if level[step] == at]) for at in range(len(set(level.values())))]


class AllRuns:
    """All runs of a shop by their turns, and their webs."""

    def __init__(self, shop):
        self.shop = shop
        self.runs = {}
        self.search(Run(shop))
        self.webs = {}
        self.web_of = {}
        for turns, run in self.runs.items():
            web = OneWeb(run)
            web = self.webs.setdefault(web.key(), web)
            web.orders.append(turns)
            self.web_of[turns] = web
        self.over = sorted([turns for turns, run in self.runs.items() if run.is_over()])
        self.over_webs = sorted([web for web in self.webs.values() if web.is_over()], key=OneWeb.least)

    def search(self, run):
        self.runs[run.turns()] = run
        for k in run.can():
            twin = run.twin()
            twin.go(k)
            self.search(twin)

    def outcome(self, turns):
        return self.runs[turns].outcome()

    def nearest(self):
        """All turns of runs, the nearest first."""
        return sorted(self.runs, key=lambda turns: (len(turns), turns))

    def prefixes(self, turns):
        return [turns[:at] for at in range(len(turns) + 1)]

    def outcomes(self):
        told = {}
        for turns in self.over:
            told.setdefault(kinded(self.outcome(turns)), (self.outcome(turns), turns))
        return list(told.values())

    def first(self, test):
        return next((turns for turns in self.over if test(self.outcome(turns))), None)

    def sometimes(self, test):
        return next((turns for turns in self.nearest() if test(self.outcome(turns))), None)

    def unavoidable(self, test):
        for turns in self.over:
            if not any(test(self.outcome(some)) for some in self.prefixes(turns)):
                return turns
        return None

    def fewest_changes(self, test):
        return min([(changes(turns), turns) for turns in self.over if test(self.outcome(turns))], default=None)

    def standstills(self):
        told = {}
        for turns in self.over:
            run = self.runs[turns]
            if run.stands():
                waits = tuple([run.wish(k) for k in range(self.shop.many)])
                told.setdefault(kinded(waits), (waits, turns))
        return list(told.values())

    def clashes(self):
        told = {}
        for turns in self.nearest():
            run = self.runs[turns]
            for k, j in itertools.combinations(run.can(), 2):
                if touch(run.wish(k), run.wish(j)):
                    clash = (k, run.wish(k), j, run.wish(j))
                    told.setdefault(kinded(clash), (turns, *clash))
        return list(told.values())

    def not_serial(self):
        return next((web.least() for web in self.over_webs if web.serial() is None), None)

    def passing(self, test):
        return [web for web in self.over_webs if test(web.run.outcome())]

    def deciding(self, test):
        passing = self.passing(test)
        failing = [web for web in self.over_webs if web not in passing]
        if not passing or not failing:
            return []
        unlike = {(one, other) for web in passing for one, other in web.pairs if one[0] != other[0]}
        return sorted([pair for pair in unlike if all(pair in web.pairs for web in passing)
                       and not any(pair in web.pairs for web in failing)])

    def kept(self, stretches):
        return [web.least() for web in self.over_webs if web.keeps(stretches)]

    def least_stretches(self, stretches, test):
        def shuts_out(choice):
            chosen = [stretches[at] for at in choice]
            return not any(test(web.run.outcome()) for web in self.over_webs if web.keeps(chosen))

        places = range(len(stretches))
        choices = [list(choice) for size in range(len(stretches) + 1) for choice in itertools.combinations(places, size)]
        shutting = [choice for choice in choices if shuts_out(choice)]
        return [choice for choice in shutting
                if not any(set(part) < set(choice) for part in shutting)]

    def are_all(self, rows):
        if any(tuple(row) not in self.over for row in rows):
            return False
        shown = [self.over_webs.index(self.web_of[tuple(row)]) for row in rows]
        return sorted(shown) == list(range(len(self.over_webs)))
