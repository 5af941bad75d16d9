"""What several tests need: works made of wishes, and looks at all of a run."""


def doing(*wishes):
    """A work that makes these wishes, each a tuple as wishes are told, and tells its answers."""

    def work(hand):
        return tuple([getattr(hand, name)(*given) for name, *given in wishes])

    return work


def idle(hand):
    """A work that ends without a wish."""


def failure(kind, call, *given, **named):
    """The error of just this kind that a call raises."""
    try:
        call(*given, **named)
    except BaseException as error:
        if type(error) is not kind:
            raise AssertionError(f"{kind.__name__} awaited, {error!r} came") from error
        return error
    raise AssertionError(f"{kind.__name__} awaited, nothing came")


def names_of(pairs):
    return [name for name, _ in pairs]


def seen(run):
    """All that a run tells of itself, with the kinds of what it tells."""
    numbers = range(run.shop.many)
    _, cells, locks, belts, _ = run.outcome()
    return repr(
        (
            [run.wish(k) for k in numbers],
            run.can(),
            run.turns(),
            run.steps(),
            run.ends(),
            [run.cell(name) for name in names_of(cells)],
            [run.holder(name) for name in names_of(locks)],
            [run.belt(name) for name in names_of(belts)],
            [run.said(k) for k in numbers],
            run.outcome(),
            run.is_over(),
            run.stands(),
        )
    )


def all_runs(shop, run, most=20):
    """A run at each place that the shop can come to from here."""
    yield run
    if len(run.turns()) < most:
        for k in run.can():
            twin = run.twin()
            twin.go(k)
            yield from all_runs(shop, twin, most)
