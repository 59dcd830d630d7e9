"""What the descending row tells of a network: its image, and whether it keeps ties for all rows."""

from tieskept.descents import at_work, descending, led_back
from tieskept.errors import Unfit
from tieskept.networks import first_far
from tieskept.runs import exchanged, out, turned_pairs


def image(n, network):
    """Return what comes out of the descending row."""
    return out(network, descending(n))


def keeps_all(n, network):
    """Return whether network keeps ties, for all rows."""
    return kept_all_gates(n, network) == len(network)


def kept_all_gates(n, network):
    """Return how many first gates of network keep ties, for all rows."""
    return first_far(network, exchanged(network, descending(n)))


def all_paper(n, network):
    """Return a paper for no told order: a word, and two places whose equal things are turned on it."""
    spot = kept_all_gates(n, network)
    if spot == len(network):
        raise Unfit()
    i, j = network[spot]
    ahead = network[:spot]
    first = _first_word(image(n, ahead), i, j)
    # The gate leads the first word to the second one and leaves that: it turns two things of one of both.
    second = led_back(((i, j),), first)
    words = [led_back(at_work(n, ahead), word) for word in (first, second)]
    papers = [(word, p, q) for word in words for p, q in turned_pairs(network, word)]
    return papers[0]


def _first_word(keys, i, j):
    """Return the word with 1 on i, 0 on j, and a line between them of which the one with the same item is sure.

    keys lie on the lines ahead of the far gate (i, j), behind the descending row.
    """
    three = _three(keys, i, j)
    lines = range(len(keys))
    # A line that leads to another one is the lesser one: so these lines ascend as [F3] asks for.
    noughts = [line for line in lines if line not in three and any([_leads(keys, line, to) for to in three])]
    noughts.extend(three[:three.index(i)])
    return tuple([0 if line in noughts else 1 for line in lines])


def _three(keys, i, j):
    """Return j, i and a line between them in the order in which they are put side by side."""
    between = range(i + 1, j)
    behind_i = [p for p in between if _leads(keys, i, p)]
    if behind_i:
        # None of these leads to the least one of them.
        return (j, i, behind_i[0])
    ahead_of_j = [p for p in between if _leads(keys, p, j)]
    if ahead_of_j:
        return (ahead_of_j[-1], j, i)
    return (j, i, i + 1)


def _leads(keys, a, b):
    """Return whether the line a is sure to have the lesser key of both, b being a later line."""
    return a < b and keys[a] < keys[b]
