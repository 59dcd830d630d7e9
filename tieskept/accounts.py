"""What is worked out of a network and a told order, once for all questions."""

from tieskept.lanes import run_lanes, word_lanes
from tieskept.networks import first_far
from tieskept.words import let_words


def account(n, order, network):
    """Return whether network keeps ties, and what comes out of it of all let words, as the lanes of the lines."""
    exchanging, lanes = run_lanes(network, word_lanes(n, let_words(n, order)))
    live = [spot for spot, told in enumerate(exchanging) if told]
    return first_far(network, live) == len(network), tuple(lanes)
