"""All let words gone through at once.

The lane of a line is a number with a bit for each let word: the bit k is the item that the word k has on the
line. Such a number tells some of the words, too: those whose bits it has. So a gate is done on all words by a
few steps, however many words there are.
"""


def word_lanes(n, words):
    """Return the list of the lanes of the n lines on which words come in."""
    lanes = [0] * n
    for k, word in enumerate(words):
        for line in range(n):
            if word[line]:
                lanes[line] |= 1 << k
    return lanes


def run_lanes(network, lanes):
    """Return for each gate the words on which it exchanges, and the lanes behind all gates."""
    now = list(lanes)
    exchanging = []
    for i, j in network:
        exchanging.append(now[i] & ~now[j])
        now[i], now[j] = now[i] & now[j], now[i] | now[j]
    return exchanging, now


def first_told(words, told):
    """Return the first one of the words that a number tells, None if it tells none."""
    if told == 0:
        return None
    # Of a number and its negative the lowest bit alone is the same.
    return words[(told & -told).bit_length() - 1]
