"""Worlds of sums of bits, in which what a lot does not bar is felt."""
from seenanddone.base.helpers import is_ascending, pair_of, rows_of
from seenanddone.base.numbers import ONE, ZERO
from seenanddone.bars.barred import open_trail
from seenanddone.errors import InvalidOperation, TooMany
from seenanddone.web.checks import need_diagram, need_saying
from seenanddone.web.trails import is_way, meeting
from seenanddone.world.worlds import MAX_HIDDEN, World, bows_at

_MOST_BOWS = 8
_FAIR = ((1, 2), (1, 2))
_SELDOM = ((3, 4), (1, 4))


def _are_some(value, pairs):
    """Whether the value is an ascending tuple of some of the pairs."""
    return isinstance(value, tuple) and all([pair in pairs for pair in value]) and is_ascending(value)


def sum_world(diagram, arrows, bows, *, uneven=None):
    """The world in which each thing is the sum, modulo 2, of what some arrows and bows bring to it."""
    need_diagram(diagram)
    if not _are_some(arrows, diagram.arrows):
        raise InvalidOperation("no ascending tuple of arrows of the diagram")
    if not _are_some(bows, diagram.bows):
        raise InvalidOperation("no ascending tuple of bows of the diagram")
    if uneven is not None and uneven not in bows and (uneven not in diagram or uneven in _fed_by(arrows, bows)):
        raise InvalidOperation("neither a thing that is not fed nor one of the bows")
    if len(bows) > _MOST_BOWS:
        raise TooMany(MAX_HIDDEN)
    return _added_world(diagram, arrows, bows, _SELDOM, uneven)


def noiseless_world(diagram, arrows, bows):
    """The world made of sums in which no fed thing has a noise; it has at most eight of these bows."""
    return _added_world(diagram, arrows, bows, (ONE, ZERO), None)


def _fed_by(arrows, bows):
    """The list of the things to which some arrows lead, or which some bows join."""
    return [effect for _, effect in arrows] + [thing for bow in bows for thing in bow]


def _added_world(diagram, arrows, bows, noise, uneven):
    """The world made of sums in which each fed thing adds a noise with these shares."""
    fed = _fed_by(arrows, bows)
    hidden = {bow: _source(bow, uneven) if bow in bows else (ONE,) for bow in diagram.bows}
    tables = {}
    for thing in diagram.things:
        heeded = [(cause, thing) in arrows for cause in diagram.parents(thing)]
        heeded = heeded + [bow in bows for bow in bows_at(diagram, thing)]
        counts = [2 for _ in diagram.parents(thing)] + [len(hidden[bow]) for bow in bows_at(diagram, thing)]
        tables[thing] = {
            row: _noisy_sum(row, heeded, noise) if thing in fed else _source(thing, uneven)
            for row in rows_of(counts)
        }
    return World(diagram, {thing: 2 for thing in diagram.things}, hidden, tables)


def _source(spot, uneven):
    return _SELDOM if spot == uneven else _FAIR


def _noisy_sum(row, heeded, noise):
    """The shares of a thing that is the sum of the heeded values of a row and of a noise."""
    is_odd = sum([value for value, heed in zip(row, heeded) if heed]) % 2 == 1
    return noise[::-1] if is_odd else noise


def joints_of(diagram, trail, ways):
    """The pair of the arrows and of the bows that a trail and the arrows of some ways have."""
    # The errors of the diagram and of the trail are those of what meets.
    if not _are_ways(diagram, ways, meeting(diagram, trail)):
        raise InvalidOperation("no ways from things that meet on the trail")
    arrows = [(way[index], way[index + 1]) for way in list(ways.values()) for index in range(len(way) - 1)]
    bows = []
    for index in range(1, len(trail), 2):
        left, joint, right = trail[index - 1:index + 2]
        if joint == "-":
            bows.append(pair_of(left, right))
        else:
            arrows.append((left, right) if joint == ">" else (right, left))
    return (tuple(sorted(set(arrows))), tuple(sorted(set(bows))))


def _are_ways(diagram, value, starts):
    """Whether the value is a dict from some of the starts to ways that begin at them."""
    if not isinstance(value, dict):
        return False
    return all([
        start in starts and is_way(diagram, value[start]) and value[start][0] == start
        for start in value
    ])


def felt_world(diagram, x, y, z):
    """A full world in which x and y are not free of each other given z, or None if z bars them."""
    found = open_trail(diagram, x, y, z)
    if found is None:
        return None
    arrows, bows = joints_of(diagram, found[0], found[1])
    return sum_world(diagram, arrows, bows)


def is_felt(diagram, x, y, z, value):
    """Whether the value is a full world of the diagram in which x and y are not free of each other given z."""
    need_saying(diagram, x, y, z)
    if not isinstance(value, World) or value.diagram != diagram:
        return False
    return value.full and not value.seen.is_free(x, y, z)
