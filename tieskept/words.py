"""The words of 0 and 1 that an order lets."""

from tieskept.bounds import MAX_WORDS
from tieskept.errors import TooMany


def word_count(n, order):
    """Return how many words of n order lets."""
    return len(let_words(n, order))


def words(n, order):
    """Return the ascending tuple of the words of n that order lets."""
    found = let_words(n, order)
    if len(found) > MAX_WORDS:
        raise TooMany(MAX_WORDS)
    return tuple(found)


def let_words(n, order):
    """Return the ascending list of the words of n that order lets, however many they are."""
    return let_rows(order, [(0, 1)] * n)


def let_rows(order, choices):
    """Return the ascending list of the rows that order lets and that have, at each place, a key of its choices.

    The choices of a place are an ascending tuple of keys from 0 on.
    """
    found = [()]
    for place, keys in enumerate(choices):
        below = [p for p, q in order if q == place]
        found = [row + (key,) for row in found for key in _let_keys(row, below, keys)]
    return found


def _let_keys(row, below, keys):
    """Return the list of those keys that are at least what row has at each place of below."""
    least = max([row[p] for p in below], default=0)
    return [key for key in keys if key >= least]
