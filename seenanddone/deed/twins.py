"""Knots, for which no steps tell an effect, and twins: two worlds that are seen alike and done unlike."""
from seenanddone.base.helpers import lot_of, lowest, picked, places_in, rows_of
from seenanddone.base.numbers import ONE, is_lot_of, without
from seenanddone.deed.deeds import done_evenly
from seenanddone.deed.steps import leading, pieces, steps_or_knot
from seenanddone.errors import InvalidOperation
from seenanddone.web.checks import need_effect
from seenanddone.world.worlds import World, bows_at

_SURE = ((1, 1), (0, 1))
_FAIR = ((1, 2), (1, 2))
_SELDOM = ((3, 4), (1, 4))


def knot_of(diagram, x, y):
    """A knot of the effect, or None."""
    return steps_or_knot(diagram, x, y)[1]


def is_knot(diagram, x, y, value):
    """Whether the value is a knot of the effect."""
    need_effect(diagram, x, y)
    if not isinstance(value, tuple) or len(value) != 2 or value[0] not in pieces(diagram, x, y):
        return False
    c, t = value
    if not is_lot_of(t, diagram.things) or len(t) == len(c) or not all([thing in t for thing in c]):
        return False
    part = diagram.part(t)
    return len(part.districts) == 1 and part.with_ahead(c) == t


def is_told(diagram, x, y):
    """Whether steps tell the effect."""
    return knot_of(diagram, x, y) is None


def twins_of(diagram, x, y):
    """Twins of the effect, or None if it is told."""
    knot = knot_of(diagram, x, y)
    if knot is None:
        return None
    bits = _bits_of(diagram, leading(diagram, x, y), y, knot)
    tree = _tree_of(diagram, knot)
    return (_bit_world(diagram, bits, tree), _bit_world(diagram, _without_rest(bits, knot), tree))


def _tree_of(diagram, knot):
    """The list of bows that join the lesser lot of a knot to a tree, and then the greater one."""
    tree = []
    joined_up = [knot[0][0]]
    for lot in knot:
        while len(joined_up) < len(lot):
            bow = [
                pair for pair in diagram.bows
                if pair[0] in lot and pair[1] in lot and (pair[0] in joined_up) != (pair[1] in joined_up)
            ][0]
            tree.append(bow)
            joined_up.append(bow[1] if bow[0] in joined_up else bow[0])
    return tree


def _hands_of(part, things):
    """The dict from those of some things that have children in a part of a diagram to one child of each."""
    return {thing: part.children(thing)[0] for thing in things if len(part.children(thing)) > 0}


def _bits_of(diagram, lead, y, knot):
    """The bits of all things in the first one of two twins.

    A dict from the things to dicts from the bits "b" and "m" to triples: the tuple of the pairs of a thing and a
    bit of it that are added up, that of the bows whose hidden bits are, and the shares of a noise.
    """
    c, t = knot
    # In both lots all things have ways to the lesser one, or to y, so that any child is on one.
    inner = _hands_of(diagram.part(c), c)
    outer = _hands_of(diagram.part(t), without(t, c))
    hands = {**inner, **outer}
    leads = _hands_of(diagram.part(lead), without(lead, y))
    ends = [thing for thing in c if thing not in hands]
    tree = _tree_of(diagram, knot)
    bits = {}
    for thing in diagram.part(lead).order:
        brought = [(other, bit) for other in leads if leads[other] == thing for bit in _told_on(bits, ends, other)]
        bits[thing] = {"m": (tuple(brought), (), _SELDOM)} if brought else {}
    for thing in t:
        added = tuple([(other, "b") for other in hands if hands[other] == thing])
        bows = tuple([bow for bow in tree if thing in bow])
        more = bits.setdefault(thing, {})
        more["b"] = (added, bows, _SELDOM if thing == ends[0] else _SURE)
    for thing in diagram.things:
        if len(bits.setdefault(thing, {})) == 0:
            bits[thing] = {"b": ((), (), _FAIR)}
    return bits


def _told_on(bits, ends, thing):
    """The bits that a thing of the leading lot hands on to the next one on a way to y."""
    return (("b",) if thing in ends else ()) + tuple(bits[thing])


def _without_rest(bits, knot):
    """The bits of the second one of two twins: the lesser lot of the knot leaves out what comes from the rest."""
    c = knot[0]
    left = {thing: {bit: bits[thing][bit] for bit in bits[thing]} for thing in bits}
    for thing in c:
        added, bows, noise = bits[thing]["b"]
        left[thing]["b"] = (
            tuple([pair for pair in added if pair[0] in c]),
            tuple([bow for bow in bows if bow[0] in c and bow[1] in c]),
            noise,
        )
    return left


def _bit_world(diagram, bits, tree):
    """The world in which each thing has these bits, and the hidden thing of each bow of a tree one."""
    hidden = {bow: _FAIR if bow in tree else (ONE,) for bow in diagram.bows}
    sizes = {thing: 2 * len(bits[thing]) for thing in bits}
    tables = {}
    for thing in diagram.things:
        parents = diagram.parents(thing)
        bows = bows_at(diagram, thing)
        counts = [sizes[cause] for cause in parents] + [len(hidden[bow]) for bow in bows]
        tables[thing] = {
            row: _bit_shares(bits, thing, {head: value for head, value in zip(parents + bows, row)})
            for row in rows_of(counts)
        }
    return World(diagram, sizes, hidden, tables)


def _bit_of(bits, thing, bit, value):
    """What a bit of a thing is if the thing has a value."""
    names = list(bits[thing])
    return value // 2 % 2 if len(names) == 2 and names[0] == bit else value % 2


def _bit_shares(bits, thing, heeded):
    """The shares of the values of a thing, where what it heeds has some values."""
    shares = [ONE]
    for bit in bits[thing]:
        added, bows, noise = bits[thing][bit]
        odd = sum([_bit_of(bits, other, more, heeded[other]) for other, more in added] + [heeded[bow] for bow in bows])
        chances = (noise[odd % 2], noise[1 - odd % 2])
        shares = [lowest(one[0] * other[0], one[1] * other[1]) for one in shares for other in chances]
    return tuple(shares)


def _have_alike(one, other, diagram):
    """Whether two values are worlds of a diagram with equal numbers of values and equal full seen tables."""
    if not isinstance(one, World) or not isinstance(other, World):
        return False
    if one.diagram != diagram or other.diagram != diagram:
        return False
    return one.full and one.seen == other.seen


def are_twins(diagram, x, y, value):
    """Whether the value is twins of the effect."""
    need_effect(diagram, x, y)
    if not isinstance(value, tuple) or len(value) != 2 or not _have_alike(value[0], value[1], diagram):
        return False
    lot = lot_of(x + y)
    one, other = [done_evenly(world, x).summed(lot) for world in value]
    return one != other


def unlike_deed(diagram, x, y, twins):
    """A deed on x and a row of y that it gives unlike shares in two twins."""
    if not are_twins(diagram, x, y, twins):
        raise InvalidOperation("no twins of the effect")
    lot = lot_of(x + y)
    one, other = [done_evenly(world, x).summed(lot).shares for world in twins]
    unlike = [row for row in one if one[row] != other[row]][0]
    deed = {thing: value for thing, value in zip(x, picked(unlike, places_in(lot, x)))}
    return (deed, picked(unlike, places_in(lot, y)))
