"""All let words gone through at once.

The lane of a line is a number with a bit for each let word: the bit k is the item that the word k has on the
line. Such a number tells some of the words, too: those whose bits it has. So a gate is done on all words by a
few steps, however many words there are.
"""


def word_lanes(n, words):
    """Return the list of the lanes of the n lines on which words come in."""
    lanes = [0] * n
    for k, word in enumerate(words):
        for line in range(n):
            if word[line]:
                lanes[line] |= 1 << k
    return lanes


def run_lanes(network, lanes):
    """Return for each gate the words on which it exchanges, and the lanes behind all gates."""
    now = list(lanes)
    exchanging = []
    for i, j in network:
        exchanging.append(now[i] & ~now[j])
        now[i], now[j] = now[i] & now[j], now[i] | now[j]
    return exchanging, now


def first_told(words, told):
    """Return the first one of the words that a number tells, None if it tells none."""
    if told == 0:
        return None
    # Of a number and its negative the lowest bit alone is the same.
    return words[(told & -told).bit_length() - 1]


def thing_lanes(n, network, exchanging, every):
    """Return for each place the lanes of its thing: on each line, the words on which it comes out there.

    exchanging tells for each gate the words on which it exchanges, every tells all words.
    """
    things = [[every if line == place else 0 for line in range(n)] for place in range(n)]
    for (i, j), told in zip(network, exchanging):
        for lanes in things:
            moved = (lanes[i] ^ lanes[j]) & told
            lanes[i] ^= moved
            lanes[j] ^= moved
    return things
