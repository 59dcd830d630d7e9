"""Networks of fewer gates, or of near gates alone, that do what a network does."""

from tieskept.descents import at_work
from tieskept.errors import Unfit, Unmendable
from tieskept.images import image, keeps_all
from tieskept.live import unlike_word


def least_network(n, network):
    """Return a network of as few gates as can be that does what network does to the things of all rows."""
    if not keeps_all(n, network):
        raise Unfit()
    # Where ties are kept a gate that is idle on the descending row is idle on all rows: see [F7].
    return at_work(n, network)


def mended(n, network):
    """Return a network of near gates alone that does what network does to the keys of all rows."""
    near = _near_network(image(n, network))
    word = unlike_word(n, (), network, near)
    if word is not None:
        raise Unmendable(word)
    return near


def _near_network(keys):
    """Return the network of near gates that has keys as its image and all of whose gates exchange there."""
    lines = list(keys)
    gates = []
    for last in range(1, len(lines)):
        k = last
        while k > 0 and lines[k - 1] < lines[k]:
            lines[k - 1], lines[k] = lines[k], lines[k - 1]
            gates.append((k - 1, k))
            k -= 1
    # The gates were found from the end of the network.
    return tuple(gates[::-1])
