"""Orders, rows and networks of all sorts, and slow ways to look at them that share nothing with the package."""

import functools
import itertools
import random

from tieskept.bounds import MAX_KEY, MAX_LINES, MAX_WORDY

LINES = range(2, MAX_LINES + 1)
WORDY = range(2, MAX_WORDY + 1)


def all_pairs(n):
    return tuple(itertools.combinations(range(n), 2))


def all_words(n):
    return list(itertools.product((0, 1), repeat=n))


def all_orders(n):
    """Return all orders of n, the fewest pairs first."""
    pairs = all_pairs(n)
    return [order for many in range(len(pairs) + 1) for order in itertools.combinations(pairs, many)]


def drawn_orders(n, seed):
    """Return orders of n of all sorts: none and all pairs, chains, runs, few pairs and many."""
    draw = random.Random(seed * 100 + n)
    pairs = all_pairs(n)
    chain = tuple((p, p + 1) for p in range(n - 1))
    found = [(), pairs, chain, ((0, n - 1),), ((0, 1),), ((n - 2, n - 1),), pairs[:n - 1], pairs[1:], pairs[:-1]]
    found.append(tuple(sorted(set(chain) | {(0, n - 1)})))
    found.append(tuple(pair for pair in pairs if pair[1] - pair[0] == 2))
    found.append(tuple(pair for pair in pairs if pair[0] < n // 2 <= pair[1]))
    for share in (1, 2, 3, 5, 10, 20, 50, 80, 95):
        found.append(tuple(pair for pair in pairs if draw.randrange(100) < share))
    for many in (1, 2, n // 2):
        found.append(tuple(sorted(draw.sample(pairs, min(many, len(pairs))))))
    places = sorted(draw.sample(range(n), draw.randrange(2, n + 1)))
    found.append(tuple(zip(places, places[1:])))
    starts = {0, *draw.sample(range(n), draw.randrange(1, n))}
    found.append(tuple((p, p + 1) for p in range(n - 1) if p + 1 not in starts))
    return found


def drawn_rows(n, seed):
    """Return rows of n of all sorts: equal keys, few and many unlike ones, keys at both ends."""
    draw = random.Random(seed * 100 + n)
    found = [tuple(range(n)), tuple(range(n, 0, -1)), (0,) * n, (MAX_KEY,) * n, (-MAX_KEY,) * n]
    found.append((MAX_KEY, -MAX_KEY) + (0,) * (n - 2))
    found.append((MAX_KEY,) * (n - 1) + (-MAX_KEY,))
    for keys in ((0, 1), (0, 1, 2), (-MAX_KEY, MAX_KEY), (-MAX_KEY, 1 - MAX_KEY, MAX_KEY - 1, MAX_KEY), range(n)):
        for _ in range(3):
            found.append(tuple(draw.choice(keys) for _ in range(n)))
    found.append(tuple(draw.sample(range(n), n)))
    found.append(tuple(draw.randrange(-MAX_KEY, MAX_KEY + 1) for _ in range(n)))
    return found


def drawn_networks(n, seed, most=30):
    """Return networks of n of all sorts: none, near and far gates, sorters, many gates and few, gates again."""
    draw = random.Random(seed * 100 + n)
    pairs = all_pairs(n)
    near = tuple((k, k + 1) for k in range(n - 1))
    found = [(), near, near[::-1], ((0, n - 1),), pairs, pairs[::-1], ((0, 1), (0, 1)), near * 2]
    found.append(sorter(n))
    found.append(sorter(n) + pairs)
    found.append(tuple((k, k + n // 2) for k in range(n - n // 2)))
    for _ in range(6):
        found.append(tuple(draw.choice(pairs) for _ in range(draw.randrange(most + 1))))
        found.append(tuple(draw.choice(near) for _ in range(draw.randrange(most + 1))))
        # Far gates that come late often have nothing left to do.
        late = [draw.choice(pairs) if draw.randrange(6) == 0 else draw.choice(near) for _ in range(most)]
        found.append(tuple(late))
    return found


@functools.lru_cache(maxsize=None)
def wordy_cases(seed):
    """Return lines, orders and networks of all sorts, to ten lines: each network with no order and with others."""
    found = []
    for n in WORDY:
        draw = random.Random(seed * 100 + n)
        orders = drawn_orders(n, seed)
        for network in drawn_networks(n, seed):
            for order in ((), *draw.sample(orders, 2)):
                found.append((n, order, network))
    return found


def all_networks(n, most):
    """Return all networks of n of at most so many gates."""
    return [network for many in range(most + 1) for network in itertools.product(all_pairs(n), repeat=many)]


def sorter(n):
    """Return the network of near gates that leads, line by line, the greatest key on to the end."""
    return tuple((k, k + 1) for last in range(n - 1, 0, -1) for k in range(last))


def kept_networks(n, seed, most=40):
    """Return networks of all sorts that keep ties, some of them with far gates."""
    draw = random.Random(seed * 100 + n)
    near = [(k, k + 1) for k in range(n - 1)]
    found = [network for network in drawn_networks(n, seed, most) if slow_keeps_all(n, network)]
    for _ in range(4):
        network = ()
        for _ in range(draw.randrange(most)):
            gate = draw.choice(near) if draw.randrange(3) else draw.choice(all_pairs(n))
            if slow_keeps_all(n, network + (gate,)):
                network = network + (gate,)
        found.append(network)
    return found


def slow_closed(order):
    """The pairs to which one comes by pairs of order, found by walking on, step by step."""
    steps = {}
    for p, q in order:
        steps.setdefault(p, []).append(q)
    found = set()
    for start in steps:
        ways = list(steps[start])
        while ways:
            place = ways.pop()
            if (start, place) not in found:
                found.add((start, place))
                ways.extend(steps.get(place, []))
    return tuple(sorted(found))


def slow_lets(order, row):
    """Whether the order lets the row: no two places of all are a pair with the greater key ahead."""
    for p, first in enumerate(row):
        for q, second in enumerate(row):
            if first > second and (p, q) in order:
                return False
    return True


def slow_let_words(n, order):
    """All words that the order lets, ascending."""
    pairs = set(order)
    return [word for word in all_words(n) if slow_lets(pairs, word)]


def slow_run(network, row):
    """What the network does to the row, told by the things themselves: their keys, their places, and the spots."""
    things = [{"key": key, "place": place} for place, key in enumerate(row)]
    spots = []
    for spot in range(len(network)):
        first, second = things[network[spot][0]], things[network[spot][1]]
        if first["key"] > second["key"]:
            things[network[spot][0]], things[network[spot][1]] = second, first
            spots.append(spot)
    return (
        tuple(thing["key"] for thing in things),
        tuple(thing["place"] for thing in things),
        tuple(spots),
    )


def slow_turns(network, row):
    """The pairs of places whose things have equal keys and come out turned."""
    came_from = slow_run(network, row)[1]
    return [
        (p, q) for p, q in all_pairs(len(row))
        if row[p] == row[q] and came_from.index(q) < came_from.index(p)
    ]


@functools.lru_cache(maxsize=None)
def slow_first_far(n, order, network):
    """Return the spot of the first far gate that exchanges on some let word, None if there is none."""
    runs = [slow_run(network, word)[2] for word in slow_let_words(n, order)]
    far = [spot for spots in runs for spot in spots if network[spot][1] - network[spot][0] > 1]
    return min(far, default=None)


@functools.lru_cache(maxsize=None)
def let_bits(n, order):
    """Return which rows of as many keys as lines the order lets, as the bits of a number."""
    rows = itertools.product(range(n), repeat=n)
    return sum(1 << k for k, row in enumerate(rows) if slow_lets(order, row))


@functools.lru_cache(maxsize=None)
def turned_bits(n, network):
    """Return on which rows of as many keys as lines two things are turned, as the bits of a number."""
    rows = itertools.product(range(n), repeat=n)
    return sum(1 << k for k, row in enumerate(rows) if slow_turns(network, row))


def slow_paper_holds(n, order, network, value):
    if type(value) is not tuple or len(value) != 3:
        return False
    word, p, q = value
    if type(word) is not tuple or len(word) != n or type(p) is not int or type(q) is not int:
        return False
    if not all(type(item) is int and item in (0, 1) for item in word) or not 0 <= p < q < n:
        return False
    return slow_lets(order, word) and (p, q) in slow_turns(network, word)


def slow_keeps_all(n, network):
    """Whether no far gate exchanges on the descending row."""
    spots = slow_run(network, tuple(range(n, 0, -1)))[2]
    return all(network[spot][1] - network[spot][0] == 1 for spot in spots)


def slow_ahead(n, network):
    """The pairs of lines that are in order behind the descending row."""
    keys = slow_run(network, tuple(range(n, 0, -1)))[0]
    return tuple((a, b) for a, b in all_pairs(n) if keys[a] < keys[b])
