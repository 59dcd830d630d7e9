"""A bench that does all edits once more whenever it is asked, and looks at all words that come."""

import functools

from tests.samples import slow_let_words, slow_run, slow_turns
from tieskept.errors import (
    BadBatch, BadNetwork, NoName, NothingToRedo, NothingToUndo, NoVersion, Rejected, Taken, TiesError, TooMany,
    TooManyEdits, Unfit,
)
from tieskept.networks import network_error
from tieskept.orders import order_error

LETTERS = "abcdefghijklmnopqrstuvwxyz"
ARGUMENTS = {"add": 2, "drop": 1, "call": 2, "put": 3, "take": 2, "more": 2, "told": 1}


def is_name(value):
    return type(value) is str and value != "none" and 0 < len(value) < 9 and all(sign in LETTERS for sign in value)


def is_spot(value, many):
    return type(value) is int and 0 <= value < many


@functools.lru_cache(maxsize=None)
def slow_keeps(n, order, network):
    return not any(slow_turns(network, word) for word in slow_let_words(n, order))


@functools.lru_cache(maxsize=None)
def slow_ends(n, order, network):
    return [slow_run(network, word)[0] for word in slow_let_words(n, order)]


class SlowBench:
    def __init__(self, n):
        self.n = n
        self.edits = []
        self.undone = []
        self.accounts = []

    def state(self, version):
        """Return the order and the dict of the networks when so many edits stood."""
        order, networks = (), {}
        for edit in self.edits[:version]:
            order, networks = self.done(order, networks, edit)
        return order, networks

    def done(self, order, networks, edit):
        networks = dict(networks)
        word, *arguments = edit
        if word == "batch":
            return self.batch_done(order, networks, arguments[0])
        if word == "told":
            if order_error(self.n, arguments[0]) is not None:
                raise Unfit()
            return arguments[0], networks
        name = arguments[0]
        if word == "add":
            if not is_name(name):
                raise Unfit()
            self.check(arguments[1])
            if name in networks:
                raise Taken(name)
            if len(networks) == 6:
                raise TooMany(6)
            networks[name] = arguments[1]
            return order, networks
        if type(name) is not str or name not in networks:
            raise NoName(name)
        gates = list(networks[name])
        if word == "drop":
            del networks[name]
        elif word == "call":
            if not is_name(arguments[1]):
                raise Unfit()
            if arguments[1] in networks:
                raise Taken(arguments[1])
            networks[arguments[1]] = networks.pop(name)
        elif word == "more":
            gates.append(arguments[1])
            self.check(tuple(gates))
            networks[name] = tuple(gates)
        else:
            if not is_spot(arguments[1], len(gates)):
                raise Unfit()
            del gates[arguments[1]]
            if word == "put":
                gates.insert(arguments[1], arguments[2])
                self.check(tuple(gates))
            networks[name] = tuple(gates)
        return order, networks

    def batch_done(self, order, networks, edits):
        if type(edits) is not tuple or len(edits) > 8:
            raise BadBatch()
        for edit in edits:
            if type(edit) is not tuple or not edit or type(edit[0]) is not str:
                raise BadBatch()
            if len(edit) != 1 + ARGUMENTS.get(edit[0], -1):
                raise BadBatch()
        for place, edit in enumerate(edits):
            try:
                order, networks = self.done(order, networks, edit)
            except TiesError:
                raise Rejected(place) from None
        return order, networks

    def check(self, network):
        error = network_error(self.n, network)
        if error is not None:
            raise BadNetwork(error)

    def edit(self, *edit):
        self.done(*self.state(len(self.edits)), edit)
        if len(self.edits) == 40:
            raise TooManyEdits()
        self.edits.append(edit)
        self.undone.clear()
        return len(self.edits)

    def undo(self):
        if not self.edits:
            raise NothingToUndo()
        self.undone.append(self.edits.pop())
        return len(self.edits)

    def redo(self):
        if not self.undone:
            raise NothingToRedo()
        self.edits.append(self.undone.pop())
        return len(self.edits)

    def at(self, version):
        if type(version) is not int or not 0 <= version <= len(self.edits):
            raise NoVersion(version)
        order, networks = self.state(version)
        return order, tuple((name, networks[name]) for name in sorted(networks))

    def network(self, name):
        networks = self.state(len(self.edits))[1]
        if type(name) is not str or name not in networks:
            raise NoName(name)
        return networks[name]

    def account(self, network):
        order = self.state(len(self.edits))[0]
        if (network, order) not in self.accounts:
            self.accounts.append((network, order))
        return self.n, order, network

    def keeps(self, name):
        return slow_keeps(*self.account(self.network(name)))

    def alike(self, name, other):
        one, two = self.network(name), self.network(other)
        return slow_ends(*self.account(one)) == slow_ends(*self.account(two))

    def image_of(self, name):
        return slow_run(self.network(name), tuple(range(self.n, 0, -1)))[0]
