"""Whether a lot bars two others, and the two papers that show it."""
from seenanddone.base.helpers import lot_of, reached
from seenanddone.base.numbers import is_lot_of
from seenanddone.web.checks import need_diagram, need_lot, need_saying
from seenanddone.web.diagrams import districts_of
from seenanddone.web.trails import is_open, is_trail, is_way, meeting, trails_between


def marriages(diagram, lot):
    """The ascending tuple of the ties of the web of marriages of a lot."""
    need_diagram(diagram)
    need_lot(lot, diagram.things)
    tied = tied_to(diagram, lot)
    return tuple([(one, other) for one in lot for other in tied[one] if one < other])


def tied_to(diagram, lot):
    """The dict from the things of a lot to the lots of the things that its web of marriages ties to them."""
    # The inner things of such a trail are of one district, and its ends are in it or have an arrow to it.
    tied = {thing: [] for thing in lot}
    bowed = {thing: [other for other in diagram.bowed(thing) if other in lot] for thing in lot}
    for district in districts_of(lot, bowed):
        causes = [cause for thing in district for cause in diagram.parents(thing) if cause in lot]
        married = lot_of(district + tuple(causes))
        for thing in married:
            tied[thing].extend(married)
    return {thing: lot_of([other for other in tied[thing] if other != thing]) for thing in lot}


def is_barred(diagram, x, y, z):
    """Whether z bars x and y."""
    return bar_cut(diagram, x, y, z) is not None


def bar_cut(diagram, x, y, z):
    """A bar cut that shows that z bars x and y, or None."""
    need_saying(diagram, x, y, z)
    tied = tied_to(diagram, diagram.with_ahead(lot_of(x + y + z)))
    nexts = {thing: [other for other in tied[thing] if other not in z] for thing in tied}
    found = lot_of(x + reached(x, nexts))
    return None if any([thing in y for thing in found]) else found


def is_bar_cut(diagram, x, y, z, value):
    """Whether the value is a bar cut for x, y and z."""
    need_saying(diagram, x, y, z)
    whole = diagram.with_ahead(lot_of(x + y + z))
    if not is_lot_of(value, whole) or not all([thing in value for thing in x]):
        return False
    if any([thing in y or thing in z for thing in value]):
        return False
    tied = tied_to(diagram, whole)
    return all([other in value or other in z for thing in value for other in tied[thing]])


def open_trail(diagram, x, y, z):
    """An open trail, with its ways, that shows that z does not bar x and y, or None."""
    if is_barred(diagram, x, y, z):
        return None
    return open_trail_past(diagram, x, y, z, ())


def open_trail_past(diagram, x, y, z, past):
    """An open trail whose ways have no thing of one more lot but where they begin, or None."""
    for trail in trails_from(diagram, x, y):
        if is_open(diagram, trail, z):
            ways = ways_apart(diagram, meeting(diagram, trail), z, trail[::2] + past)
            if ways is not None:
                return (trail, {thing: ways[thing] for thing in sorted(ways)})
    return None


def trails_from(diagram, x, y):
    """The list of all trails from a thing of x to a thing of y without inner things of these."""
    inner = tuple([thing for thing in diagram.things if thing not in x and thing not in y])
    return [trail for start in x for end in y for trail in trails_between(diagram, start, end, inner)]


def ways_apart(diagram, starts, z, taken):
    """A dict from the starts to ways into z that are apart, and have no taken thing but their starts, or None."""
    if len(starts) == 0:
        return {}
    for way in ways_into(diagram, (starts[0],), z, taken):
        rest = ways_apart(diagram, starts[1:], z, taken + way)
        if rest is not None:
            return {starts[0]: way, **rest}
    return None


def ways_into(diagram, begun, z, taken):
    """The list of all ways with this beginning that end at their first thing of z, by things not taken."""
    if begun[-1] in z:
        return [begun]
    found = []
    for thing in diagram.children(begun[-1]):
        if thing not in taken:
            found.extend(ways_into(diagram, begun + (thing,), z, taken))
    return found


def is_open_trail(diagram, x, y, z, value):
    """Whether the value is an open trail with its ways for x, y and z."""
    need_saying(diagram, x, y, z)
    if not isinstance(value, tuple) or len(value) != 2:
        return False
    trail, ways = value
    if not is_trail(diagram, trail) or trail[0] not in x or trail[-1] not in y:
        return False
    meets = meeting(diagram, trail)
    inner = trail[2:-1:2]
    if any([thing in x or thing in y or (thing in z and thing not in meets) for thing in inner]):
        return False
    return _are_ways_apart(diagram, ways, meets, z, trail[::2])


def _are_ways_apart(diagram, value, starts, z, taken):
    """Whether the value is a dict from just the starts to ways into z that are apart."""
    if not isinstance(value, dict) or len(value) != len(starts):
        return False
    passed = taken
    for start in starts:
        if start not in value or not is_way(diagram, value[start]) or value[start][0] != start:
            return False
        way = value[start]
        if way[-1] not in z or any([thing in z for thing in way[:-1]]):
            return False
        if any([thing in passed for thing in way[1:]]):
            return False
        passed = passed + way
    return True
