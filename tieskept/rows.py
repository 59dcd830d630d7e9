"""Rows of keys, and the words of 0 and 1 that they are cut to."""

from tieskept.bounds import MAX_KEY
from tieskept.pairs import is_integer


def row_error(n, value):
    """Return what is wrong with value as a row of n, None if nothing is."""
    if not isinstance(value, tuple) or len(value) != n:
        return "form"
    for spot, key in enumerate(value):
        if not is_integer(key) or abs(key) > MAX_KEY:
            return ("key", spot)
    return None


def lets(order, row):
    """Return whether order lets row."""
    return all([row[p] <= row[q] for p, q in order])


def cut(row, key):
    """Return the word that has 1 where row has more than key."""
    return tuple([1 if item > key else 0 for item in row])
