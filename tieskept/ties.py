"""Whether a network keeps the order of equal things, for all rows that an order lets."""

from tieskept.errors import Unfit
from tieskept.lanes import first_told, run_lanes, word_lanes
from tieskept.live import live
from tieskept.networks import first_far
from tieskept.pairs import is_pair
from tieskept.rows import lets, row_error
from tieskept.runs import turned_pairs
from tieskept.words import let_words


def keeps_ties(n, order, network):
    """Return whether network turns no two things on any row that comes."""
    return kept_gates(n, order, network) == len(network)


def kept_gates(n, order, network):
    """Return how many gates stand ahead of the first live far gate, all of them if there is none."""
    return first_far(network, live(n, order, network))


def passing(n, order, network):
    """Return a paper: a let word, and two places whose equal things are turned on it."""
    word = clean_word(n, order, network)
    # On a clean word some things always are turned: see [D6].
    p, q = turned_pairs(network, word)[0]
    return word, p, q


def paper_holds(n, order, network, value):
    """Return whether value is a paper."""
    if not isinstance(value, tuple) or len(value) != 3:
        return False
    word, p, q = value
    if not is_pair(n, (p, q)) or not _is_word(n, word) or not lets(order, word):
        return False
    return (p, q) in turned_pairs(network, word)


def clean_word(n, order, network):
    """Return a let word with noughts ahead of the first live far gate and ones behind it, when its turn comes."""
    spot = kept_gates(n, order, network)
    if spot == len(network):
        raise Unfit()
    words = let_words(n, order)
    _, lanes = run_lanes(network[:spot], word_lanes(n, words))
    i, j = network[spot]
    return first_told(words, _clean(lanes, i, j))


def _clean(lanes, i, j):
    """Return the words with noughts ahead of i, 1 on i, 0 on j, and ones behind j, told by one number."""
    told = lanes[i] & ~lanes[j]
    for lane in lanes[:i]:
        told &= ~lane
    for lane in lanes[j + 1:]:
        told &= lane
    return told


def _is_word(n, value):
    return row_error(n, value) is None and all([key in (0, 1) for key in value])
