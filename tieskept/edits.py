"""The edits of a bench, each of which makes another state of the one that stands.

A state is the pair of the told order and of the shelf, the ascending tuple of the pairs of names and networks.
An edit is the tuple of its word and its arguments.
"""

from tieskept.bounds import BATCH, MAX_NAMES
from tieskept.errors import BadBatch, BadNetwork, NoName, Rejected, Taken, TiesError, TooMany, Unfit
from tieskept.networks import network_error
from tieskept.orders import order_error
from tieskept.pairs import is_integer

_LETTERS = 8
_NO_NAMES = "none"


def network_of(shelf, name):
    """Return the network of name."""
    networks = dict(shelf)
    if not isinstance(name, str) or name not in networks:
        raise NoName(name)
    return networks[name]


def edited(n, state, edit):
    """Return the state behind an edit."""
    word, *arguments = edit
    step = _STEPS[word]
    return step(n, state, *arguments)


def _add(n, state, name, network):
    order, shelf = state
    if not _is_name(name):
        raise Unfit()
    _check_network(n, network)
    _check_free(shelf, name)
    if len(shelf) >= MAX_NAMES:
        raise TooMany(MAX_NAMES)
    return order, _with(shelf, name, network)


def _drop(n, state, name):
    order, shelf = state
    network_of(shelf, name)
    return order, _without(shelf, name)


def _call(n, state, name, other):
    order, shelf = state
    network = network_of(shelf, name)
    if not _is_name(other):
        raise Unfit()
    _check_free(shelf, other)
    return order, _with(_without(shelf, name), other, network)


def _put(n, state, name, spot, gate):
    order, shelf = state
    network = network_of(shelf, name)
    _check_spot(network, spot)
    changed = network[:spot] + (gate,) + network[spot + 1:]
    _check_network(n, changed)
    return order, _with(shelf, name, changed)


def _take(n, state, name, spot):
    order, shelf = state
    network = network_of(shelf, name)
    _check_spot(network, spot)
    return order, _with(shelf, name, network[:spot] + network[spot + 1:])


def _more(n, state, name, gate):
    order, shelf = state
    longer = network_of(shelf, name) + (gate,)
    _check_network(n, longer)
    return order, _with(shelf, name, longer)


def _told(n, state, order):
    _, shelf = state
    if order_error(n, order) is not None:
        raise Unfit()
    return order, shelf


def _batch(n, state, edits):
    if not _is_batch(edits):
        raise BadBatch()
    for place, edit in enumerate(edits):
        try:
            state = edited(n, state, edit)
        except TiesError:
            raise Rejected(place) from None
    return state


_STEPS = {
    "add": _add, "drop": _drop, "call": _call, "put": _put, "take": _take, "more": _more, "told": _told,
    "batch": _batch,
}

# How many arguments each of the edits has that may be part of a batch.
_PARTS = {"add": 2, "drop": 1, "call": 2, "put": 3, "take": 2, "more": 2, "told": 1}


def _is_batch(value):
    return isinstance(value, tuple) and len(value) <= BATCH and all([_is_part(item) for item in value])


def _is_part(value):
    if not isinstance(value, tuple) or len(value) == 0:
        return False
    word = value[0]
    return isinstance(word, str) and word in _PARTS and len(value) == 1 + _PARTS[word]


def _is_name(value):
    if not isinstance(value, str) or len(value) > _LETTERS or value == _NO_NAMES:
        return False
    return value.isascii() and value.isalpha() and value.islower()


def _check_network(n, value):
    error = network_error(n, value)
    if error is not None:
        raise BadNetwork(error)


def _check_free(shelf, name):
    if name in dict(shelf):
        raise Taken(name)


def _check_spot(network, spot):
    if not is_integer(spot) or not 0 <= spot < len(network):
        raise Unfit()


def _with(shelf, name, network):
    """Return the shelf on which the name has the network."""
    return tuple(sorted(_without(shelf, name) + ((name, network),)))


def _without(shelf, name):
    return tuple([pair for pair in shelf if pair[0] != name])
