"""Effects, and steps of sums and quotients that tell them by the seen table."""
from seenanddone.base.helpers import (
    is_row, is_whole_within, lot_of, lowest, picked, places_in, product_of, rows_of, sum_of)
from seenanddone.base.numbers import is_lot_of, without
from seenanddone.errors import InvalidDeed, InvalidNumber, InvalidOperation, InvalidTable, Refused
from seenanddone.web.checks import need_diagram, need_effect
from seenanddone.deed.deeds import is_deed
from seenanddone.world.tables import Table

MAX_STEPS = 60


def leading(diagram, x, y):
    """The lot of y and of all things from which a way without a thing of x leads to y."""
    need_effect(diagram, x, y)
    return diagram.part(without(diagram.things, x)).with_ahead(y)


def pieces(diagram, x, y):
    """The districts of the part of the leading lot."""
    lead = leading(diagram, x, y)
    return diagram.part(lead).districts


def _lot_of_step(diagram, lots, step):
    """The lot that a value stands for as a step behind steps for some lots, or None if it is no such step."""
    if not isinstance(step, tuple):
        return None
    if step == ("seen",):
        return diagram.things
    if len(step) != 3 or not is_whole_within(step[1], 0, len(lots) - 1):
        return None
    word, index, lot = step
    part = diagram.part(lots[index])
    if word == "piece" and lot in part.districts:
        return lot
    if word == "less" and is_lot_of(lot, part.things) and len(lot) > 0 and part.with_ahead(lot) == lot:
        return lot
    return None


def _lots_or_none(diagram, value):
    """The tuple of the lots for which steps stand, or None if the value is no steps."""
    if not isinstance(value, tuple) or not 1 <= len(value) <= MAX_STEPS:
        return None
    lots = ()
    for step in value:
        lot = _lot_of_step(diagram, lots, step)
        if lot is None:
            return None
        lots = lots + (lot,)
    return lots


def lots_of_steps(diagram, steps):
    """The tuple of the lots for which steps stand."""
    need_diagram(diagram)
    lots = _lots_or_none(diagram, steps)
    if lots is None:
        raise InvalidOperation("no steps")
    return lots


def is_steps(diagram, x, y, value):
    """Whether the value is steps that tell the effect."""
    need_effect(diagram, x, y)
    lots = _lots_or_none(diagram, value)
    return lots is not None and all([piece in lots for piece in pieces(diagram, x, y)])


def steps_of(diagram, x, y):
    """Steps that tell the effect, or None if there are none."""
    return steps_or_knot(diagram, x, y)[0]


def steps_or_knot(diagram, x, y):
    """The pair of steps that tell the effect and None, or of None and a knot of it."""
    steps = (("seen",),)
    for piece in pieces(diagram, x, y):
        index = 0
        lot = diagram.things
        while lot != piece:
            part = diagram.part(lot)
            # By turns down to a district, which has all of the piece, and to what is ahead of the piece in it.
            lesser = part.district(piece[0])
            word = "piece"
            if lesser == lot:
                lesser = part.with_ahead(piece)
                word = "less"
            if lesser == lot:
                return (None, (piece, lot))
            step = (word, index, lesser)
            if step not in steps:
                steps = steps + (step,)
            index = steps.index(step)
            lot = lesser
    return (steps, None)


def _need_table(diagram, table):
    if not isinstance(table, Table) or table.things != diagram.things:
        raise InvalidTable("no table of the things of the diagram")


def _need_full(table):
    if not table.full:
        raise Refused(("full",))


def step_value(diagram, table, steps, index, row):
    """The value of a step at a row of all things, by a full table."""
    need_diagram(diagram)
    _need_table(diagram, table)
    lots = lots_of_steps(diagram, steps)
    if not is_whole_within(index, 0, len(steps) - 1):
        raise InvalidNumber(index)
    sizes = table.sizes
    if not is_row(row, [sizes[thing] for thing in table.things]):
        raise InvalidOperation("no row of the table")
    _need_full(table)
    scope, values = _values_of(diagram, table, steps, lots, index)
    return values[picked(row, places_in(table.things, scope))]


def _values_of(diagram, table, steps, lots, index):
    """The pair of the lot of the things that the value of a step hangs on, and of its values at all rows of these."""
    chain = [index]
    while steps[chain[-1]] != ("seen",):
        chain.append(steps[chain[-1]][1])
    scope = table.things
    values = table.shares
    for at in reversed(chain[:-1]):
        word, before, lot = steps[at]
        whole = lots[before]
        if word == "less":
            scope, values = _without_things(scope, values, without(whole, lot))
        else:
            scope, values = _piece_values(scope, values, diagram.part(whole).order, lot)
    return (scope, values)


def _without_things(scope, values, away):
    """The lot and the values that are left when values are summed over all values of some things."""
    left = without(scope, away)
    places = places_in(scope, left)
    groups = {}
    for row in values:
        groups.setdefault(picked(row, places), []).append(values[row])
    return (left, {row: sum_of(groups[row]) for row in groups})


def _piece_values(scope, values, order, lot):
    """The lot and the values of a piece: quotients of sums over later things, multiplied."""
    tops = []
    bottoms = []
    later = list(order)
    while any([thing in lot for thing in later]):
        thing = later.pop()
        less_scope, less_values = _without_things(scope, values, (thing,))
        if thing in lot:
            tops.append((scope, values))
            bottoms.append((less_scope, less_values))
        scope, values = less_scope, less_values
    whole = tops[0][0]
    above = [(places_in(whole, lesser), parts) for lesser, parts in tops]
    below = [(places_in(whole, lesser), parts) for lesser, parts in bottoms]
    return (whole, {row: _quotient(_parts_at(row, above), _parts_at(row, below)) for row in tops[0][1]})


def _parts_at(row, factors):
    """The list of the values that factors have at a row; each has the places of what it hangs on, and its values."""
    return [values[picked(row, places)] for places, values in factors]


def _quotient(above, below):
    """The product of some fractions, divided by that of others."""
    top = product_of([part[0] for part in above] + [part[1] for part in below])
    bottom = product_of([part[1] for part in above] + [part[0] for part in below])
    return lowest(top, bottom)


def told_by_steps(diagram, table, x, y, steps, deed):
    """The dict from the rows of y to what steps tell that a deed on x brings to them."""
    need_diagram(diagram)
    _need_table(diagram, table)
    if not is_steps(diagram, x, y, steps):
        raise InvalidOperation("no steps that tell the effect")
    sizes = table.sizes
    if not is_deed(sizes, deed) or lot_of(deed) != x:
        raise InvalidDeed("no deed on just the things of x")
    _need_full(table)
    lots = lots_of_steps(diagram, steps)
    found = [
        _values_of(diagram, table, steps, lots, lots.index(piece))
        for piece in pieces(diagram, x, y)
    ]
    told = [(places_in(table.things, scope), values) for scope, values in found]
    lead = leading(diagram, x, y)
    places = places_in(lead, y)
    groups = {row: [] for row in rows_of([sizes[thing] for thing in y])}
    for row in rows_of([sizes[thing] for thing in lead]):
        worth = {thing: value for thing, value in zip(lead, row)}
        whole = tuple([worth.get(thing, deed.get(thing, 0)) for thing in table.things])
        groups[picked(row, places)].append(_quotient(_parts_at(whole, told), []))
    return {row: sum_of(groups[row]) for row in groups}
