"""Worlds in which adjusting errs, and lots that adjust for the least price."""
from seenanddone.adjust.adjusting import adjust_bar, adjusted_shares, is_adjust_bar, is_adjusting, led, trimmed
from seenanddone.bars.felt import joints_of, sum_world
from seenanddone.bars.separators import lightest, need_priced
from seenanddone.base.helpers import lot_of, lowest, picked, places_in, sum_of
from seenanddone.base.numbers import without
from seenanddone.deed.deeds import done_evenly
from seenanddone.errors import InvalidOperation
from seenanddone.web.checks import need_saying
from seenanddone.web.trails import meeting
from seenanddone.world.tables import tops_of
from seenanddone.world.worlds import World


def bar_world(diagram, x, y, z, bar):
    """The world of sums in which adjusting for z errs, as an adjust bar tells."""
    if not is_adjust_bar(diagram, x, y, z, bar):
        raise InvalidOperation("no adjust bar")
    if bar[0] == "open":
        arrows, bows = joints_of(diagram, bar[1], bar[2])
        return sum_world(diagram, arrows, bows, uneven=_uneven_source(diagram, bar[1]))
    steps = [(way[index], way[index + 1]) for way in bar[1:] for index in range(len(way) - 1)]
    return sum_world(diagram, lot_of(steps), ())


def _uneven_source(diagram, trail):
    """The source behind the last meeting thing of a trail, or None if nothing meets on it."""
    meets = meeting(diagram, trail)
    if len(meets) == 0:
        return None
    end = trail[trail.index(meets[-1]):]
    arrows, bows = joints_of(diagram, end, {})
    fed = [effect for _, effect in arrows] + [thing for bow in bows for thing in bow]
    loose = [thing for thing in end[::2] if thing not in fed]
    return loose[0] if loose else bows[0]


def erring_world(diagram, x, y, z):
    """A full world of the diagram in which adjusting for z errs, or None if z adjusts."""
    bar = adjust_bar(diagram, x, y, z)
    return None if bar is None else bar_world(diagram, x, y, z, bar)


def is_erring(diagram, x, y, z, value):
    """Whether the value is a full world of the diagram in which adjusting for z errs for some deed on x."""
    need_saying(diagram, x, y, z)
    if not isinstance(value, World) or value.diagram != diagram or not value.full:
        return False
    lot = lot_of(x + y)
    told = adjusted_shares(value.seen, x, y, z)
    done_x = done_evenly(value, x)
    tops = tops_of(done_x, lot)
    wholes = tops_of(done_x, x)
    places = places_in(lot, x)
    return any([lowest(tops[row], wholes[picked(row, places)]) != sum_of(told[row]) for row in tops])


def widest_adjusting(diagram, x, y):
    """The widest lot that adjusts for x and y, or None if no lot does."""
    away = lot_of(led(diagram, x, y) + x + y)
    lot = without(diagram.ahead(lot_of(x + y)), away)
    return lot if is_adjusting(diagram, x, y, lot) else None


def lightest_adjusting(diagram, x, y, prices):
    """A lightest lot that adjusts for x and y with the roads that pay for it, or None if no lot with prices does."""
    need_priced(diagram, x, y, prices, ())
    off = led(diagram, x, y)
    return lightest(trimmed(diagram, x, y), x, y, {thing: prices[thing] for thing in prices if thing not in off})
