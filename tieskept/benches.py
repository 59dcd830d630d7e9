"""Benches, on which named networks are tried under a told order, with edits that can be taken back."""

from tieskept.accounts import account
from tieskept.bounds import MAX_EDITS, MAX_WORDY
from tieskept.edits import edited, network_of
from tieskept.errors import NothingToRedo, NothingToUndo, NoVersion, TiesError, TooManyEdits, Unfit
from tieskept.images import image
from tieskept.pairs import is_integer

# No order is told, and there are no names.
_FIRST_STATE = ((), ())


class Bench:
    """Networks of n lines under names, and one told order for all of them."""

    def __init__(self, n):
        if not is_integer(n) or not 2 <= n <= MAX_WORDY:
            raise Unfit()
        self._n = n
        self._accounts = {}
        self._stand((), (_FIRST_STATE,), 0)

    @property
    def n(self):
        """How many lines the networks have."""
        return self._n

    @property
    def order(self):
        """The order that is told."""
        return self._order

    @property
    def shelf(self):
        """The ascending tuple of the pairs of names and networks."""
        return self._shelf

    @property
    def version(self):
        """How many edits stand."""
        return self._version

    @property
    def log(self):
        """The tuple of the edits that stand."""
        return self._edits[:self._version]

    @property
    def made(self):
        """How many accounts, of a network and an order each, were worked out."""
        return len(self._accounts)

    def __len__(self):
        return len(self._names)

    def __getitem__(self, at):
        return network_of(self._shelf, at)

    def __iter__(self):
        return iter(self._names)

    def __eq__(self, other):
        return (isinstance(other, Bench) and self._n == other._n and self._order == other._order
                and self._shelf == other._shelf)

    def __ne__(self, other):
        return not self == other

    def add(self, name, network):
        """Give network the new name."""
        return self._edit(("add", name, network))

    def drop(self, name):
        """Drop the name and its network."""
        return self._edit(("drop", name))

    def call(self, name, other):
        """Call the network of name by another name."""
        return self._edit(("call", name, other))

    def put(self, name, spot, gate):
        """Put gate in the place of the one at spot."""
        return self._edit(("put", name, spot, gate))

    def take(self, name, spot):
        """Leave the gate at spot out."""
        return self._edit(("take", name, spot))

    def more(self, name, gate):
        """Put gate behind all others."""
        return self._edit(("more", name, gate))

    def told(self, order):
        """Tell order in the place of the one that is told."""
        return self._edit(("told", order))

    def batch(self, edits):
        """Do edits, each a tuple of its word and its arguments, as one edit; do none if one raises an error."""
        return self._edit(("batch", edits))

    def keeps(self, name):
        """Return whether the network keeps ties, by the order that is told."""
        keeps, _ = self._account(self[name])
        return keeps

    def alike(self, name, other):
        """Return whether both networks do the same to the keys of all rows that the order lets."""
        one, two = self[name], self[other]
        _, lanes_of_one = self._account(one)
        _, lanes_of_two = self._account(two)
        return lanes_of_one == lanes_of_two

    def image_of(self, name):
        """Return what comes out of the network of the descending row."""
        return image(self._n, self[name])

    def undo(self):
        """Take the last edit back that stands."""
        if self._version == 0:
            raise NothingToUndo()
        return self._stand(self._edits, self._states, self._version - 1)

    def redo(self):
        """Do the edit again that was taken back last."""
        if self._version == len(self._edits):
            raise NothingToRedo()
        return self._stand(self._edits, self._states, self._version + 1)

    def at(self, version):
        """Return the order and the shelf when so many edits stood."""
        if not is_integer(version) or not 0 <= version <= self._version:
            raise NoVersion(version)
        return self._states[version]

    def copy(self):
        """Return a bench like this one, which goes on by itself."""
        twin = Bench(self._n)
        twin._accounts = {key: self._accounts[key] for key in self._accounts}
        twin._stand(self._edits, self._states, self._version)
        return twin

    def attempt(self, work):
        """Return what work makes of this bench; all edits are as before if it raises an error of the package."""
        stood = (self._edits, self._states, self._version)
        try:
            return work(self)
        except TiesError:
            self._stand(*stood)
            raise

    def _edit(self, edit):
        """Do an edit anew, and return the new version."""
        state = edited(self._n, self._states[self._version], edit)
        if self._version >= MAX_EDITS:
            raise TooManyEdits()
        behind = self._version + 1
        return self._stand(self.log + (edit,), self._states[:behind] + (state,), behind)

    def _stand(self, edits, states, version):
        """Let the first edits stand, as many as version; states are told for no edits, one edit, and so on."""
        self._edits = edits
        self._states = states
        self._version = version
        self._order, self._shelf = states[version]
        self._names = tuple([name for name, _ in self._shelf])
        return version

    def _account(self, network):
        """Return the account of network and of the order that is told."""
        key = (network, self._order)
        if key not in self._accounts:
            self._accounts[key] = account(self._n, self._order, network)
        return self._accounts[key]
