"""Adjusting for a lot, and bars that show that a lot does not adjust."""
from seenanddone.bars.barred import is_barred, is_open_trail, open_trail_past, ways_into
from seenanddone.base.helpers import lot_of, lowest, picked, places_in, sum_of
from seenanddone.deed.deeds import is_deed
from seenanddone.errors import InvalidDeed, Refused
from seenanddone.web.checks import need_diagram, need_lots, need_saying
from seenanddone.web.diagrams import Diagram
from seenanddone.web.trails import is_way
from seenanddone.world.tables import need_table, table_of_shares, tops_of


def _need_two_lots(diagram, x, y):
    need_diagram(diagram)
    need_lots(x, y, (), diagram.things)


def _direct_ways(diagram, x, y):
    """The list of all direct ways from x to y, the shorter ones first."""
    found = []
    begun = [(thing,) for thing in x]
    while begun:
        longer = [way + (thing,) for way in begun for thing in diagram.children(way[-1]) if thing not in x]
        found.extend([way for way in longer if way[-1] in y])
        begun = [way for way in longer if way[-1] not in y]
    return found


def _is_direct_way(diagram, x, y, value):
    """Whether the value is a direct way from x to y."""
    if not is_way(diagram, value) or value[0] not in x or value[-1] not in y:
        return False
    return not any([thing in x for thing in value[1:]]) and not any([thing in y for thing in value[:-1]])


def led(diagram, x, y):
    """The lot of the things on direct ways from x to y, without x, and of what is behind them if x is cut."""
    _need_two_lots(diagram, x, y)
    on = lot_of([thing for way in _direct_ways(diagram, x, y) for thing in way[1:]])
    return diagram.cut(x).with_behind(on)


def trimmed(diagram, x, y):
    """The diagram without those arrows with which direct ways from x to y begin."""
    _need_two_lots(diagram, x, y)
    firsts = [way[:2] for way in _direct_ways(diagram, x, y)]
    return Diagram(diagram.things, tuple([pair for pair in diagram.arrows if pair not in firsts]), diagram.bows)


def adjusted(table, x, y, z, deed):
    """The table of y that adjusting for z gives for a deed on x."""
    need_table(table)
    need_lots(x, y, z, table.things)
    sizes = table.sizes
    if not is_deed(sizes, deed) or lot_of(deed) != x:
        raise InvalidDeed("no deed on just the things of x")
    if not table.full:
        raise Refused(("full",))
    shares = adjusted_shares(table, x, y, z)
    lot = lot_of(x + y)
    spots = places_in(lot, x)
    places = places_in(lot, y)
    set_row = tuple([deed[thing] for thing in x])
    return table_of_shares(
        {thing: sizes[thing] for thing in y},
        {picked(row, places): sum_of(shares[row]) for row in shares if picked(row, spots) == set_row})


def adjusted_shares(table, x, y, z):
    """The dict from all rows of x and y to the lists of shares that add up to what adjusting for z gives there."""
    whole = lot_of(x + y + z)
    tops, seen, both = [tops_of(table, lot) for lot in (whole, z, lot_of(x + z))]
    bottom = sum(seen.values())
    spots, at_seen, at_both = [places_in(whole, lot) for lot in (lot_of(x + y), z, lot_of(x + z))]
    shares = {}
    for row in tops:
        share = lowest(seen[picked(row, at_seen)] * tops[row], bottom * both[picked(row, at_both)])
        shares.setdefault(picked(row, spots), []).append(share)
    return shares


def is_adjusting(diagram, x, y, z):
    """Whether z adjusts for x and y."""
    need_saying(diagram, x, y, z)
    if any([thing in led(diagram, x, y) for thing in z]):
        return False
    return is_barred(trimmed(diagram, x, y), x, y, z)


def adjust_bar(diagram, x, y, z):
    """An adjust bar that shows that z does not adjust for x and y, or None."""
    if is_adjusting(diagram, x, y, z):
        return None
    ways = _direct_ways(diagram, x, y)
    for way in ways:
        if any([thing in z for thing in way]):
            return ("on", way)
    for way in ways:
        for thing in way[1:]:
            branches = ways_into(diagram, (thing,), z, lot_of(way + x))
            if branches:
                return ("below", way, branches[0])
    trail, apart = open_trail_past(trimmed(diagram, x, y), x, y, z, lot_of(x + y))
    return ("open", trail, apart)


def is_adjust_bar(diagram, x, y, z, value):
    """Whether the value is an adjust bar."""
    need_saying(diagram, x, y, z)
    if not isinstance(value, tuple) or not 2 <= len(value) <= 3:
        return False
    if len(value) == 2:
        word, way = value
        return word == "on" and _is_direct_way(diagram, x, y, way) and any([thing in z for thing in way])
    word, first, second = value
    if word == "below":
        return _is_below(diagram, x, y, z, first, second)
    if word != "open" or not is_open_trail(trimmed(diagram, x, y), x, y, z, (first, second)):
        return False
    return not any([thing in x or thing in y for start in second for thing in second[start]])


def _is_below(diagram, x, y, z, way, branch):
    """Whether two values are a direct way without a thing of z, and a branch of it to z."""
    if not _is_direct_way(diagram, x, y, way) or any([thing in z for thing in way]):
        return False
    if not is_way(diagram, branch) or branch[0] not in way or branch[-1] not in z:
        return False
    if any([thing in x or thing in z for thing in branch[:-1]]):
        return False
    return not any([thing in way for thing in branch[1:]])
