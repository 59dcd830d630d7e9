"""What a network does to the descending row, which tells what it does to all rows: see [F7]."""

from tieskept.runs import exchanged


def descending(n):
    """Return the row n, n - 1, .., 1."""
    return tuple(range(n, 0, -1))


def at_work(n, network):
    """Return the gates that exchange on the descending row, in their order."""
    return tuple([network[spot] for spot in exchanged(network, descending(n))])


def led_back(gates, row):
    """Return what came in if row comes out of these gates and each of them exchanged."""
    lines = list(row)
    for i, j in gates[::-1]:
        lines[i], lines[j] = lines[j], lines[i]
    return tuple(lines)
