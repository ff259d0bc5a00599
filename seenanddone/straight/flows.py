"""Paths along steps between nodes that share no node, and the fewest nodes that all paths pass."""

# More than there can be paths.
_MANY = 1000
_SOURCE = ("source", 0)
_SINK = ("sink", 0)


def paths_apart(nexts, starts, ends):
    """The pair of the most paths from starts to ends that share no node, and of the fewest nodes that cut all paths.

    Nexts tells the nodes to which a step leads from each node; the steps have no ring.
    """
    room = _rooms(nexts, starts, ends)
    before = _searched(room)
    while _SINK in before:
        spot = _SINK
        while spot != _SOURCE:
            last = before[spot]
            room[(last, spot)] = room[(last, spot)] - 1
            room[(spot, last)] = room[(spot, last)] + 1
            spot = last
        before = _searched(room)
    paths = [_path_from(nexts, room, node) for node in starts if room[((node, 0), _SOURCE)] > 0]
    return (paths, [node for node in nexts if (node, 0) in before and (node, 1) not in before])


def _rooms(nexts, starts, ends):
    """How often one can go from a spot to another one: a node is a pair of spots, and can be passed once."""
    room = {}
    for node in nexts:
        room[((node, 0), (node, 1))] = 1
        for other in nexts[node]:
            room[((node, 1), (other, 0))] = _MANY
    for node in starts:
        room[(_SOURCE, (node, 0))] = _MANY
    for node in ends:
        room[((node, 1), _SINK)] = _MANY
    for one, other in list(room):
        room[(other, one)] = 0
    return room


def _searched(room):
    """The dict from the spots that can still be reached from the source to the spot ahead of each."""
    nexts = {}
    for one, other in room:
        if room[(one, other)] > 0:
            nexts.setdefault(one, []).append(other)
    before = {_SOURCE: _SOURCE}
    waiting = [_SOURCE]
    while waiting:
        spot = waiting.pop(0)
        for other in nexts.get(spot, []):
            if other not in before:
                before[other] = spot
                waiting.append(other)
    return before


def _path_from(nexts, room, start):
    """The tuple of the nodes on the path that goes on from a node."""
    path = (start,)
    further = [start]
    while further:
        further = [other for other in nexts[path[-1]] if room[((other, 0), (path[-1], 1))] > 0]
        path = path + tuple(further)
    return path
