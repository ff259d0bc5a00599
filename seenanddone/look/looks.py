"""Looks ahead of a deed: what policies bring, and whether a further look pays."""
from seenanddone.bars.barred import bar_cut, is_bar_cut, is_open_trail, open_trail, ways_into
from seenanddone.bars.felt import joints_of, noiseless_world
from seenanddone.base.helpers import (
    is_row, is_whole_within, lot_of, lowest, picked, places_in, product_of, sum_of)
from seenanddone.base.numbers import is_lot_of
from seenanddone.deed.deeds import done_evenly
from seenanddone.errors import InvalidLot, InvalidOperation, Refused, UnknownName
from seenanddone.web.checks import need_two
from seenanddone.web.diagrams import Diagram
from seenanddone.web.trails import is_way
from seenanddone.world.tables import tops_of
from seenanddone.world.worlds import World, need_world


def _open_to_looks(diagram, deed, gain):
    """The list of the things that can be looks."""
    barred = diagram.with_behind((deed,)) + (gain,)
    return [thing for thing in diagram.things if thing not in barred]


def _need_looks(world, deed, gain, looks):
    need_world(world)
    need_two(world.diagram, deed, gain)
    if not is_lot_of(looks, _open_to_looks(world.diagram, deed, gain)):
        raise InvalidLot("no lot of things that can be looks")


def _is_policy(world, deed, looks, value):
    """Whether the value is a policy for looks."""
    sizes = world.sizes
    counts = [sizes[thing] for thing in looks]
    if not isinstance(value, dict) or len(value) != product_of(counts):
        return False
    return all([is_row(row, counts) and is_whole_within(value[row], 0, sizes[deed] - 1) for row in value])


def _gains_of(world, deed, gain, looks):
    """For each row of the looks the list of what each value of the deed brings in it."""
    lot = lot_of(looks + (deed, gain))
    # A deed that is done by chance has each of its values equally often.
    tops = tops_of(done_evenly(world, (deed,)), lot)
    size = world.sizes[deed]
    places = places_in(lot, looks)
    at_deed, at_gain = places_in(lot, (deed, gain))
    gains = {}
    for row in tops:
        sums = gains.setdefault(picked(row, places), [0 for _ in range(size)])
        sums[row[at_deed]] = sums[row[at_deed]] + row[at_gain] * tops[row]
    bottom = sum(tops.values())
    return {look: [lowest(top * size, bottom) for top in gains[look]] for look in gains}


def _best_of(gains):
    """What a best policy brings."""
    return sum_of([_greatest(gains[row])[0] for row in gains])


def _greatest(brings):
    """The pair of the greatest one of some fractions and of its first index."""
    best = 0
    for index, part in enumerate(brings):
        if part[0] * brings[best][1] > brings[best][0] * part[1]:
            best = index
    return (brings[best], best)


def _brought_by(gains, policy):
    return sum_of([gains[row][policy[row]] for row in gains])


def brought(world, deed, gain, looks, policy):
    """What a policy brings."""
    _need_looks(world, deed, gain, looks)
    if not _is_policy(world, deed, looks, policy):
        raise InvalidOperation("no policy for the looks")
    return _brought_by(_gains_of(world, deed, gain, looks), policy)


def best_policy(world, deed, gain, looks):
    """A policy for the looks that brings no less than any other one."""
    _need_looks(world, deed, gain, looks)
    gains = _gains_of(world, deed, gain, looks)
    return {row: _greatest(gains[row])[1] for row in gains}


def is_best_policy(world, deed, gain, looks, value):
    """Whether the value is a policy for the looks that brings no less than any other one."""
    _need_looks(world, deed, gain, looks)
    if not _is_policy(world, deed, looks, value):
        return False
    gains = _gains_of(world, deed, gain, looks)
    return _brought_by(gains, value) == _best_of(gains)


def worth_of(world, deed, gain, looks, look):
    """How much more a best policy brings that heeds one more look."""
    _need_looks(world, deed, gain, looks)
    if look not in _open_to_looks(world.diagram, deed, gain) or look in looks:
        raise UnknownName(look)
    more = _best_of(_gains_of(world, deed, gain, lot_of(looks + (look,))))
    less = _best_of(_gains_of(world, deed, gain, looks))
    return sum_of((more, (-less[0], less[1])))


def _need_further(diagram, deed, gain, look):
    need_two(diagram, deed, gain)
    if look not in diagram or look in (deed, gain):
        raise UnknownName(look)
    if look in diagram.behind((deed,)):
        raise Refused(("behind",))
    if look in diagram.parents(deed):
        raise Refused(("seen",))


def _free_diagram(diagram, deed):
    """The diagram without the bows of the deed."""
    return Diagram(diagram.things, diagram.arrows, tuple([bow for bow in diagram.bows if deed not in bow]))


def _known_to(diagram, deed):
    """The lot of the deed and its parents."""
    return lot_of(diagram.parents(deed) + (deed,))


def does_pay(diagram, deed, gain, look):
    """Whether a further look pays in some world."""
    return look_bar(diagram, deed, gain, look) is None


def look_bar(diagram, deed, gain, look):
    """A paper that a further look pays in no world, or None."""
    _need_further(diagram, deed, gain, look)
    behind = diagram.with_behind((deed,))
    if gain not in behind:
        return ("behind", behind)
    cut = bar_cut(_free_diagram(diagram, deed), (look,), (gain,), _known_to(diagram, deed))
    return None if cut is None else ("cut", cut)


def is_look_bar(diagram, deed, gain, look, value):
    """Whether the value is a paper that a further look pays in no world."""
    _need_further(diagram, deed, gain, look)
    if not isinstance(value, tuple) or len(value) != 2 or not is_lot_of(value[1], diagram.things):
        return False
    word, lot = value
    if word == "behind":
        return deed in lot and gain not in lot and diagram.with_behind(lot) == lot
    known = _known_to(diagram, deed)
    # A gain that is a parent of the deed is known: then there is nothing to be barred.
    if word != "cut" or gain in known:
        return False
    return is_bar_cut(_free_diagram(diagram, deed), (look,), (gain,), known, lot)


def look_trail(diagram, deed, gain, look):
    """A paper that a further look pays in some world, or None."""
    if not does_pay(diagram, deed, gain, look):
        return None
    found = open_trail(_free_diagram(diagram, deed), (look,), (gain,), _known_to(diagram, deed))
    return (found, ways_into(diagram, (deed,), (gain,), ())[0])


def is_look_trail(diagram, deed, gain, look, value):
    """Whether the value is a paper that a further look pays in some world."""
    _need_further(diagram, deed, gain, look)
    if not isinstance(value, tuple) or len(value) != 2:
        return False
    found, way = value
    if not is_way(diagram, way) or way[0] != deed or way[-1] != gain:
        return False
    return is_open_trail(_free_diagram(diagram, deed), (look,), (gain,), _known_to(diagram, deed), found)


def paying_world(diagram, deed, gain, look):
    """A world of the diagram in which a further look pays, or None."""
    found = look_trail(diagram, deed, gain, look)
    if found is None:
        return None
    (trail, ways), way = found
    # What is on both the way and the trail is behind the deed, and so on the last part of the trail, where all arrows
    # lead to the gain: from there on the deed goes along with the trail, as it would else come to the gain twice.
    joins = [index for index, thing in enumerate(way) if thing in trail][0]
    steps = [(way[index], way[index + 1]) for index in range(joins)]
    arrows, bows = joints_of(diagram, trail, ways)
    return noiseless_world(diagram, lot_of(arrows + tuple(steps)), bows)


def is_paying(diagram, deed, gain, look, value):
    """Whether the value is a world of the diagram in which a further look pays."""
    _need_further(diagram, deed, gain, look)
    if not isinstance(value, World) or value.diagram != diagram or gain in diagram.parents(deed):
        return False
    return worth_of(value, deed, gain, diagram.parents(deed), look)[0] > 0
