"""Told orders: pairs (p, q) of places, of which p has a key that is at most that of q."""

from tieskept.pairs import is_pair


def order_error(n, value):
    """Return what is wrong with value as an order of n, None if nothing is."""
    if not isinstance(value, tuple):
        return "form"
    for spot, item in enumerate(value):
        if not is_pair(n, item):
            return ("pair", spot)
    for spot in range(1, len(value)):
        if value[spot] <= value[spot - 1]:
            return ("order", spot)
    return None


def closed(n, order):
    """Return the greatest order of n that lets the same rows as order."""
    return _pairs(_places_above(n, order))


def least_order(n, order):
    """Return the least order of n that lets the same rows as order."""
    above = _places_above(n, order)
    nearest = []
    for p in range(n):
        further = 0
        for q in range(p + 1, n):
            if above[p] >> q & 1:
                further |= above[q]
        nearest.append(above[p] & ~further)
    return _pairs(nearest)


def runs_order(sizes):
    """Return the order that runs of these sizes, one behind another, have."""
    pairs = []
    first = 0
    for size in sizes:
        pairs.extend([(p, p + 1) for p in range(first, first + size - 1)])
        first += size
    return tuple(pairs)


def _places_above(n, order):
    """Return for each place p a number that has the bit q for each place q to which pairs lead from p."""
    above = [0] * n
    # Pairs lead to greater places only, so from the last pair on, above[q] is whole when a pair leads to q.
    for p, q in order[::-1]:
        above[p] = above[p] | 1 << q | above[q]
    return above


def _pairs(above):
    places = range(len(above))
    return tuple([(p, q) for p in places for q in places if above[p] >> q & 1])
