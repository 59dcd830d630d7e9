"""The words of 0 and 1 that an order lets."""

from tieskept.bounds import MAX_WORDS
from tieskept.errors import TooMany


def word_count(n, order):
    """Return how many words of n order lets."""
    return len(let_words(n, order))


def words(n, order):
    """Return the ascending tuple of the words of n that order lets."""
    found = let_words(n, order)
    if len(found) > MAX_WORDS:
        raise TooMany(MAX_WORDS)
    return tuple(found)


def let_words(n, order):
    """Return the ascending list of the words of n that order lets, however many they are."""
    found = [()]
    for place in range(n):
        below = [p for p, q in order if q == place]
        longer = []
        for word in found:
            # The order only ever forbids a 0: so each word can go on, with a 1.
            if not any([word[p] for p in below]):
                longer.append(word + (0,))
            longer.append(word + (1,))
        found = longer
    return found
