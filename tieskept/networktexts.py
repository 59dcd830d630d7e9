"""Networks as texts, such as "0-2 0-1 1-2"."""

from tieskept.bounds import MAX_GATES
from tieskept.errors import BadText

_NO_GATES = "none"


def network_text(network):
    """Return the text of network."""
    if not network:
        return _NO_GATES
    return " ".join([_gate_text(i, j) for i, j in network])


def read_network(n, value):
    """Return the network of n of which value is the text."""
    if not isinstance(value, str):
        raise BadText()
    if value == _NO_GATES:
        return ()
    parts = value.split(" ")
    # All gates there are tell which parts are right, so that no figures, however long, have to be read.
    gates = {_gate_text(i, j): (i, j) for j in range(n) for i in range(j)}
    if len(parts) > MAX_GATES or not all([part in gates for part in parts]):
        raise BadText()
    return tuple([gates[part] for part in parts])


def _gate_text(i, j):
    return f"{i}-{j}"
