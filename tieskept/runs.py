"""What a network does to one row, done once or often."""


def out(network, row):
    """Return the keys that lie on the lines behind all gates."""
    return tuple([row[place] for place in came(network, row)])


def came(network, row):
    """Return for each line the place from which the thing on it came."""
    places, _ = _run(network, row)
    return tuple(places)


def exchanged(network, row):
    """Return the spots of the gates that exchange."""
    _, spots = _run(network, row)
    return tuple(spots)


def out_often(network, row, times):
    """Return the keys that lie on the lines when the network was done so many times."""
    # What is settled stays so, however many times are told.
    for _ in range(min(times, settled(network, row))):
        row = out(network, row)
    return row


def settled(network, row):
    """Return the least number of times behind which the network exchanges nothing."""
    times = 0
    while exchanged(network, row):
        row = out(network, row)
        times += 1
    return times


def turned_pairs(network, row):
    """Return all pairs of places with equal keys, of which the thing of the greater one comes out first."""
    places = came(network, row)
    lines = [places.index(place) for place in range(len(places))]
    pairs = [(p, q) for p in range(len(row)) for q in range(p + 1, len(row))]
    return [(p, q) for p, q in pairs if row[p] == row[q] and lines[q] < lines[p]]


def _run(network, row):
    """Return the list of the places from which the things on the lines came, and of the spots that exchanged."""
    places = list(range(len(row)))
    spots = []
    for spot, (i, j) in enumerate(network):
        if row[places[i]] > row[places[j]]:
            places[i], places[j] = places[j], places[i]
            spots.append(spot)
    return places, spots
