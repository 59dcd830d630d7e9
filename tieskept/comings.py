"""What can come out of a network that keeps ties, if all keys that come in are unlike."""

from tieskept.descents import at_work, led_back
from tieskept.errors import Unfit
from tieskept.images import image, keeps_all
from tieskept.rows import lets


def ahead(n, network):
    """Return all pairs of lines that are in order behind the descending row, and so behind all rows."""
    if not keeps_all(n, network):
        raise Unfit()
    keys = image(n, network)
    return tuple([(a, b) for a in range(n) for b in range(a + 1, n) if keys[a] < keys[b]])


def can_come(n, network, row):
    """Return a rearrangement of 0 to n - 1 that comes out as row, None if there is none."""
    if not lets(ahead(n, network), row):
        return None
    # All gates at work are near, and on what is led back each of them exchanges: see [F7].
    return led_back(at_work(n, network), row)


def come_count(n, network):
    """Return how many rearrangements of 0 to n - 1 can come out."""
    lesser = [0] * n
    for a, b in ahead(n, network):
        lesser[b] |= 1 << a
    # Keys are given from the least one on: for each lot of lines, in how many ways it can be the first one.
    ways = [1] + [0] * ((1 << n) - 1)
    for given in range(1 << n):
        for line in range(n):
            if not given >> line & 1 and not lesser[line] & ~given:
                behind = given | 1 << line
                ways[behind] = ways[behind] + ways[given]
    return ways[-1]
