"""Tags that tell equal keys of one stretch of places from those of another one."""

from tieskept.errors import Unfit
from tieskept.lanes import first_told, run_lanes, thing_lanes, word_lanes
from tieskept.pairs import is_integer
from tieskept.rows import cut
from tieskept.runs import came
from tieskept.words import let_rows


def tagged_came(starts, network, row):
    """Return for each line the place from which the thing on it came, if equal keys are told by their tags."""
    # Of two tuples the second items are compared if the first ones are equal: just as keys and tags are.
    return came(network, tuple([(key, _tag(starts, place)) for place, key in enumerate(row)]))


def turned_in(n, order, network, first, last):
    """Return a turn in the stretch from first to last: a let row and two places, None if there is none."""
    rows = let_rows(order, [(0, 1, 2) if first <= place <= last else (0, 2) for place in range(n)])
    above_0 = word_lanes(n, [cut(row, 0) for row in rows])
    above_1 = word_lanes(n, [cut(row, 1) for row in rows])
    things = thing_lanes(n, network, _exchanging(network, above_0, above_1), (1 << len(rows)) - 1)
    for p in range(first, last):
        for q in range(p + 1, last + 1):
            ones = above_0[p] & above_0[q] & ~above_1[p] & ~above_1[q]
            row = first_told(rows, ones & _ahead(things[q], things[p]))
            if row is not None:
                return row, p, q
    return None


def least_tags(n, order, network):
    """Return the starts of the longest good stretches, found from the left."""
    starts = [0]
    for place in range(1, n):
        if turned_in(n, order, network, starts[-1], place) is not None:
            starts.append(place)
    return tuple(starts)


def border_paper(n, order, network, value):
    """Return a turn that shows why least_tags has a start of this index, which is not the first one."""
    starts = least_tags(n, order, network)
    if not is_integer(value) or not 1 <= value < len(starts):
        raise Unfit()
    return turned_in(n, order, network, starts[value - 1], starts[value])


def tags_hold(n, order, network, starts):
    """Return whether with tags by starts things with equal keys and tags stay in order on all let rows."""
    lasts = [start - 1 for start in starts[1:]] + [n - 1]
    return all([turned_in(n, order, network, first, last) is None for first, last in zip(starts, lasts)])


def _tag(starts, place):
    """Return the number of the stretch that has the place."""
    return len([start for start in starts if start <= place]) - 1


def _exchanging(network, above_0, above_1):
    """Return for each gate the rows on which it exchanges: those on one of whose two cuts it does."""
    by_0, _ = run_lanes(network, above_0)
    by_1, _ = run_lanes(network, above_1)
    return [one | other for one, other in zip(by_0, by_1)]


def _ahead(one, other):
    """Return the rows on which one thing is on a lesser line than the other one; both are told by their lanes."""
    told = 0
    passed = 0
    for line, lane in enumerate(other):
        told |= lane & passed
        passed |= one[line]
    return told
