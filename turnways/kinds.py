"""What integers, words and values are, and when two values are the same."""

from turnways.errors import BadValue, NoThing

LONGEST_WORD = 8


def is_whole(given):
    """Tell whether something is an integer, which a truth is not."""
    return isinstance(given, int) and not isinstance(given, bool)


def is_word(given):
    """Tell whether something is a word: one to eight small letters."""
    if not isinstance(given, str) or not 1 <= len(given) <= LONGEST_WORD:
        return False
    return all(["a" <= letter <= "z" for letter in given])


def is_value(given):
    """Tell whether something is a value, a tuple in all its things."""
    if isinstance(given, tuple):
        return all([is_value(inner) for inner in given])
    return given is None or isinstance(given, (int, str))


def same(one, other):
    """Tell whether two values are equal and alike in kind, at all depths."""
    if isinstance(one, tuple) and isinstance(other, tuple):
        if len(one) != len(other):
            return False
        return all([same(inner, partner) for inner, partner in zip(one, other)])
    # Only truths and integers can be equal and yet not alike in kind.
    return isinstance(one, bool) == isinstance(other, bool) and one == other


def check_value(given):
    """Refuse what is no value."""
    if not is_value(given):
        raise BadValue(given)


def check_thing(names, name):
    """Refuse what is not among the names of the things of a kind."""
    # Other objects may have no hash, and could not be looked up.
    if not isinstance(name, str) or name not in names:
        raise NoThing(name)
