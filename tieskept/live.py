"""Which gates ever do anything, and what is sure behind a network, for all rows that an order lets."""

from tieskept.errors import Unfit
from tieskept.lanes import first_told, run_lanes, word_lanes
from tieskept.words import let_words


def live(n, order, network):
    """Return the spots of the gates that exchange on some let row."""
    exchanging, _ = run_lanes(network, word_lanes(n, let_words(n, order)))
    return tuple([spot for spot, told in enumerate(exchanging) if told])


def live_word(n, order, network, spot):
    """Return a let word on which the gate at spot exchanges."""
    words = let_words(n, order)
    exchanging, _ = run_lanes(network, word_lanes(n, words))
    word = first_told(words, exchanging[spot])
    if word is None:
        raise Unfit()
    return word


def bare(n, order, network):
    """Return network without its idle gates."""
    return tuple([network[spot] for spot in live(n, order, network)])


def sure(n, order, network):
    """Return all pairs of lines, the first of which never has the greater key behind network."""
    _, lanes = run_lanes(network, word_lanes(n, let_words(n, order)))
    return tuple([(i, j) for i in range(n) for j in range(i + 1, n) if not lanes[i] & ~lanes[j]])


def unsorted_word(n, order, network):
    """Return a let word of which what comes out does not ascend, None if there is none."""
    words = let_words(n, order)
    _, lanes = run_lanes(network, word_lanes(n, words))
    falling = 0
    for line in range(n - 1):
        falling |= lanes[line] & ~lanes[line + 1]
    return first_told(words, falling)


def unlike_word(n, order, one, other):
    """Return a let word of which unlike words come out of one and of other, None if there is none."""
    words = let_words(n, order)
    lanes = word_lanes(n, words)
    _, lanes_of_one = run_lanes(one, lanes)
    _, lanes_of_other = run_lanes(other, lanes)
    unlike = 0
    for line in range(n):
        unlike |= lanes_of_one[line] ^ lanes_of_other[line]
    return first_told(words, unlike)
