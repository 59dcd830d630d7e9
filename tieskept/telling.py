"""How few pairs more have to be told for a network to keep ties."""

from tieskept.lanes import run_lanes, word_lanes
from tieskept.networks import is_far
from tieskept.words import let_words


def fewest_told(n, order, network):
    """Return an order with all pairs of order and as few more as can be, by which network keeps ties."""
    lanes = word_lanes(n, let_words(n, order))
    exchanging, _ = run_lanes(network, lanes)
    bad = 0
    for gate, told in zip(network, exchanging):
        if is_far(gate):
            bad |= told
    return tuple(sorted(order + _fewest_pairs(bad, _kept_away(lanes))))


def _kept_away(lanes):
    """Return for each pair of places the words that it keeps away."""
    n = len(lanes)
    return {(p, q): lanes[p] & ~lanes[q] for p in range(n) for q in range(p + 1, n)}


def _fewest_pairs(bad, away):
    """Return pairs, as few as can be, that together keep all bad words away."""
    # Behind each step: what bad words may be left by so many pairs, and the pairs that leave them.
    found = {bad: ()}
    while 0 not in found:
        # Some pair has to keep the first bad word that is left away, so no other pairs have to be tried.
        found = {
            left & ~words: pairs + (pair,)
            for left, pairs in found.items() for pair, words in away.items() if words & (left & -left)
        }
    return found[0]
