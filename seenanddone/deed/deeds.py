"""Deeds: what is seen behind them, and the rules by which they are exchanged for looks."""
from seenanddone.bars.barred import is_barred, open_trail, trails_from, ways_apart, ways_into
from seenanddone.bars.felt import joints_of, sum_world
from seenanddone.base.helpers import (
    common_bottom, is_whole_within, lot_of, lowest, picked, places_in, product_of, rows_of)
from seenanddone.base.numbers import ONE, ZERO, without
from seenanddone.errors import InvalidDeed, InvalidLot, InvalidOperation, InvalidTable, TooMany
from seenanddone.web.checks import need_diagram, need_lot, need_some
from seenanddone.web.trails import is_open, meeting
from seenanddone.world.tables import are_sizes, table_of, tops_of
from seenanddone.world.worlds import MAX_BOTTOM, World, bows_at, need_world, scaled_table, seen_tops, tops_over


def is_deed(sizes, value):
    """Whether the value is a deed on things with these numbers of values."""
    if not are_sizes(sizes):
        raise InvalidTable("no numbers of values of one to six things")
    if not isinstance(value, dict):
        return False
    return all([thing in sizes and is_whole_within(value[thing], 0, sizes[thing] - 1) for thing in value])


def _need_deed(world, deed):
    need_world(world)
    if not is_deed(world.sizes, deed):
        raise InvalidDeed("no deed in the world")


def _set_shares(size, value):
    """The shares of a thing that is set to a value."""
    return tuple([ONE if index == value else ZERO for index in range(size)])


def done(world, deed):
    """The done table: what is seen behind a deed."""
    _need_deed(world, deed)
    sizes = world.sizes
    tables = world.tables
    for thing in deed:
        tables[thing] = {row: _set_shares(sizes[thing], deed[thing]) for row in tables[thing]}
    return table_of(sizes, seen_tops(world.diagram, sizes, world.hidden, tables))


def done_evenly(world, lot):
    """The table of what is seen if a deed on a lot is done by chance, each one as often as any other."""
    sizes = world.sizes
    tables = world.tables
    for thing in lot:
        even = tuple([ONE for _ in range(sizes[thing])])
        tables[thing] = {row: even for row in tables[thing]}
    return table_of(sizes, seen_tops(world.diagram, sizes, world.hidden, tables))


def done_world(world, deed):
    """The world behind a deed, of the diagram that is cut at the set things."""
    _need_deed(world, deed)
    diagram = world.diagram.cut(lot_of(deed))
    sizes = world.sizes
    hidden = world.hidden
    tables = world.tables
    for thing in diagram.things:
        if thing in deed:
            tables[thing] = {(): _set_shares(sizes[thing], deed[thing])}
        else:
            tables[thing] = _left_table(world, diagram, thing)
        if common_bottom([part for row in tables[thing] for part in tables[thing][row]], MAX_BOTTOM) is None:
            raise TooMany(MAX_BOTTOM)
    return World(diagram, sizes, {bow: hidden[bow] for bow in diagram.bows}, tables)


def _left_table(world, diagram, thing):
    """The table of a thing in which the hidden things of the bows that a diagram does not have are summed out."""
    bows = bows_at(world.diagram, thing)
    heads = world.diagram.parents(thing) + bows
    kept = places_in(heads, [head for head in heads if head not in bows or head in diagram.bows])
    away = places_in(heads, [bow for bow in bows if bow not in diagram.bows])
    hidden = world.hidden
    bottoms = [common_bottom(hidden[heads[place]]) for place in away]
    draws = [tops_over(hidden[heads[place]], bottom) for place, bottom in zip(away, bottoms)]
    table = world.tables[thing]
    scaled = scaled_table(table)
    whole = {}
    for row in table:
        weight = product_of([tops[value] for tops, value in zip(draws, picked(row, away))])
        sums = whole.setdefault(picked(row, kept), [0 for _ in scaled[row]])
        whole[picked(row, kept)] = [top + weight * more for top, more in zip(sums, scaled[row])]
    return {row: tuple([lowest(top, sum(whole[row])) for top in whole[row]]) for row in whole}


def _need_exchange(diagram, rule, x, y, z, w):
    need_diagram(diagram)
    if rule not in ("look", "swap", "deed"):
        raise InvalidOperation("no rule of exchange")
    need_lot(x, diagram.things)
    need_some(y, diagram.things)
    need_some(z, diagram.things)
    need_lot(w, diagram.things)
    if len(lot_of(x + y + z + w)) < len(x + y + z + w):
        raise InvalidLot("two of the lots meet")


def _ruled(diagram, rule, x, z, w):
    """The diagram in which a rule wants y and z to be barred."""
    whole = diagram.cut(x)
    if rule == "look":
        return whole
    if rule == "swap":
        return whole.bare(z)
    return whole.cut(without(z, whole.ahead(w)))


def does_rule_hold(diagram, rule, x, y, z, w):
    """Whether a rule of exchange holds for four lots."""
    _need_exchange(diagram, rule, x, y, z, w)
    return is_barred(_ruled(diagram, rule, x, z, w), y, z, lot_of(x + w))


def breaking_world(diagram, rule, x, y, z, w):
    """A full world of the diagram that breaks a rule of exchange, or None if it holds."""
    if does_rule_hold(diagram, rule, x, y, z, w):
        return None
    ruled = _ruled(diagram, rule, x, z, w)
    given = lot_of(x + w)
    # Cut at z no trail from z begins with an arrowhead at z, and no way comes to z.
    found = open_trail(ruled.cut(z) if rule == "deed" else ruled, z, y, given)
    if found is not None:
        arrows, bows = joints_of(diagram, found[0], found[1])
    else:
        arrows, bows = _joints_by_looks(ruled, y, z, given)
    return sum_world(diagram, arrows, bows)


def _joints_by_looks(diagram, y, z, given):
    """The joints of an open trail with an arrowhead at z, and of a way from there to what is looked at."""
    for trail in trails_from(diagram, z, y):
        if trail[1] != ">" and is_open(diagram, trail, given):
            for way in ways_into(diagram, trail[:1], given, trail[::2]):
                ways = ways_apart(diagram, meeting(diagram, trail), given, trail[::2] + way + z)
                if ways is not None:
                    arrows, bows = joints_of(diagram, trail, ways)
                    steps = [(way[index], way[index + 1]) for index in range(len(way) - 1)]
                    return (lot_of(arrows + tuple(steps)), bows)
    return None


def is_breaking(diagram, rule, x, y, z, w, value):
    """Whether the value is a full world of the diagram that breaks a rule of exchange."""
    _need_exchange(diagram, rule, x, y, z, w)
    if not isinstance(value, World) or value.diagram != diagram or not value.full:
        return False
    done_x = done_evenly(value, x)
    if rule == "look":
        return not done_x.is_free(y, z, lot_of(x + w))
    seen = lot_of(x + z + w) if rule == "swap" else lot_of(x + w)
    done_both = done_evenly(value, lot_of(x + z))
    return not _do_tell_alike(done_both, lot_of(x + z + w), done_x, seen, y)


def _do_tell_alike(one, one_seen, other, other_seen, y):
    """Whether y has the same given shares in one table as in another one, where less may be seen."""
    whole = lot_of(one_seen + y)
    lots = [one_seen, lot_of(other_seen + y), other_seen]
    tops, seen, far, far_seen = [
        tops_of(table, lot) for table, lot in zip((one, one, other, other), [whole] + lots)
    ]
    places = [places_in(whole, lot) for lot in lots]
    for row in rows_of([one.sizes[thing] for thing in whole]):
        at_seen, at_far, at_far_seen = [picked(row, part) for part in places]
        if tops[row] * far_seen[at_far_seen] != far[at_far] * seen[at_seen]:
            return False
    return True
