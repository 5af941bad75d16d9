"""Works one behind the other, each whole, and the rings that stand against it."""


def is_ahead(pasts, k, j):
    """Tell whether work k has a step before a step of another work j."""
    # The last step of a work has all before it that any step of the work has.
    return k != j and len(pasts[j]) > 0 and pasts[j][-1][k] > 0


def ahead_of(pasts, works, j):
    """List those of the works that have a step before a step of work j."""
    return [k for k in works if is_ahead(pasts, k, j)]


def line_up(pasts):
    """Two lists: the least line of works of which each may come whole, and the works left over."""
    line = []
    left = list(range(len(pasts)))
    while left:
        ready = [j for j in left if not ahead_of(pasts, left, j)]
        if not ready:
            break
        line.append(ready[0])
        left.remove(ready[0])
    return line, left


def ring_among(pasts, left):
    """A ring of works among those left over, each of which has one of them ahead of it."""
    way = [left[0]]
    while True:
        earlier = ahead_of(pasts, left, way[-1])[0]
        if earlier in way:
            ring = way[way.index(earlier):]
            # The way goes from each work to one ahead of it, the ring the other way round.
            return ring[::-1]
        way.append(earlier)
