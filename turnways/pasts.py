"""Steps and what is before them, kept in the least order of their web."""

LOOKS = ("look", "until")


class Step:
    """Step (k, i) with its wish and its answer; its past counts, for each work, the steps before it."""

    def __init__(self, k, i, wished, answered, past):
        self.k = k
        self.i = i
        self.wished = wished
        self.answered = answered
        self.past = past


def touches(wish, other):
    """Tell whether two steps of unlike works with these wishes touch."""
    if len(wish) == 1 or len(other) == 1:
        # A rest names nothing.
        return False
    return wish[1] == other[1] and not (wish[0] in LOOKS and other[0] in LOOKS)


def past_of(rows, many, k, wish):
    """Count, for each of many works, the steps of these rows that are before a further one of work k."""
    past = [0] * many
    for step in rows:
        if step.k == k or touches(step.wished, wish):
            past = [max(count, more) for count, more in zip(past, step.past)]
            past[step.k] = max(past[step.k], step.i + 1)
    return tuple(past)


def place_among(rows, k, past):
    """The place in the least order of these rows at which a further step of work k comes."""
    at = 0
    for place, step in enumerate(rows):
        if step.i < past[step.k]:
            at = place + 1
    # From there on the step might come anywhere; what is least puts it ahead of the first greater work.
    while at < len(rows) and rows[at].k < k:
        at += 1
    return at


def put_among(rows, at, further):
    """The rows with a further one at a place among them."""
    return (*rows[:at], further, *rows[at:])
