"""Networks: tuples of gates (i, j), each of which compares the line i with the later line j."""

from tieskept.bounds import MAX_GATES
from tieskept.errors import TooMany, Unfit
from tieskept.pairs import is_pair


def network_error(n, value):
    """Return what is wrong with value as a network of n, None if nothing is."""
    if not isinstance(value, tuple) or len(value) > MAX_GATES:
        return "form"
    for spot, item in enumerate(value):
        if not is_pair(n, item):
            return ("gate", spot)
    return None


def mirrored(n, network):
    """Return network with its lines counted from the other end."""
    return tuple([(n - 1 - j, n - 1 - i) for i, j in network])


def joined(n, one, other, by):
    """Return the gates of one and, behind them, those of other, moved on by so many lines."""
    gates = one + tuple([(i + by, j + by) for i, j in other])
    if not all([is_pair(n, gate) for gate in gates]):
        raise Unfit()
    if len(gates) > MAX_GATES:
        raise TooMany(MAX_GATES)
    return gates


def is_far(gate):
    """Return whether the lines of gate are no neighbours."""
    i, j = gate
    return j > i + 1


def first_far(network, spots):
    """Return the first of the spots at which a far gate stands, the number of all gates if there is none."""
    for spot in spots:
        if is_far(network[spot]):
            return spot
    return len(network)
