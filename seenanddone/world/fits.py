"""Whether a table fits a diagram without bows, the worlds that show it, and least diagrams along an order."""
from seenanddone.base.helpers import common_bottom, is_row, lot_of, lowest
from seenanddone.base.numbers import ONE, ZERO, without
from seenanddone.errors import InvalidOperation, Refused, TooMany
from seenanddone.web.checks import need_bowless, need_diagram
from seenanddone.web.diagrams import Diagram
from seenanddone.world.tables import need_table, tops_of
from seenanddone.world.worlds import MAX_BOTTOM, World


def _need_fitted(table, diagram):
    need_table(table)
    need_diagram(diagram)
    if table.things != diagram.things:
        raise InvalidOperation("the table and the diagram have unlike things")
    need_bowless(diagram)


def _not_behind(diagram, thing):
    """The lot of all things that are neither a thing nor behind it."""
    return without(diagram.things, diagram.with_behind((thing,)))


def _columns(table, lot, thing):
    """The dict from all rows of a lot to the lists of what the values of one more thing share in them."""
    spot = len([other for other in lot if other < thing])
    columns = {}
    tops = tops_of(table, lot_of(lot + (thing,)))
    # The rows come in Python's order, so that the values of the thing do, too.
    for row in tops:
        columns.setdefault(row[:spot] + row[spot + 1:], []).append(tops[row])
    return columns


def _are_alike(one, other):
    """Whether two columns give their values like shares; so does each one to a column without a share above 0."""
    return all([top * sum(other) == far * sum(one) for top, far in zip(one, other)])


def _at_parents(diagram, thing, lot, row):
    """The values that the parents of a thing have in a row of a lot."""
    parents = diagram.parents(thing)
    return tuple([value for name, value in zip(lot, row) if name in parents])


def does_fit(table, diagram):
    """Whether a table fits a diagram."""
    return misfit(table, diagram) is None


def misfit(table, diagram):
    """A misfit that shows that a table does not fit a diagram, or None."""
    _need_fitted(table, diagram)
    for thing in diagram.things:
        lot = _not_behind(diagram, thing)
        columns = _columns(table, lot, thing)
        firsts = {}
        for row in columns:
            if sum(columns[row]) > 0:
                first = firsts.setdefault(_at_parents(diagram, thing, lot, row), row)
                if not _are_alike(columns[first], columns[row]):
                    return (thing, first, row)
    return None


def is_misfit(table, diagram, value):
    """Whether the value is a misfit."""
    _need_fitted(table, diagram)
    if not isinstance(value, tuple) or len(value) != 3 or value[0] not in diagram:
        return False
    thing, one, other = value
    lot = _not_behind(diagram, thing)
    sizes = table.sizes
    counts = [sizes[name] for name in lot]
    if not is_row(one, counts) or not is_row(other, counts):
        return False
    if _at_parents(diagram, thing, lot, one) != _at_parents(diagram, thing, lot, other):
        return False
    columns = _columns(table, lot, thing)
    return not _are_alike(columns[one], columns[other])


def fitting_world(table, diagram):
    """A world of a diagram whose seen table is the table, or None if it does not fit."""
    if not does_fit(table, diagram):
        return None
    tables = {}
    for thing in diagram.things:
        columns = _columns(table, diagram.parents(thing), thing)
        tables[thing] = {row: _shares_of(columns[row]) for row in columns}
        if common_bottom([part for row in columns for part in tables[thing][row]], MAX_BOTTOM) is None:
            raise TooMany(MAX_BOTTOM)
    return World(diagram, table.sizes, {}, tables)


def _shares_of(column):
    """The shares that are to one another as the numbers of a column; any shares if all of them are 0."""
    whole = sum(column)
    if whole == 0:
        return (ONE,) + tuple([ZERO for _ in column[1:]])
    return tuple([lowest(top, whole) for top in column])


def _need_ordered(table, order):
    need_table(table)
    if not isinstance(order, tuple) or len(order) != len(table.things):
        raise InvalidOperation("no tuple of all things of the table")
    if not all([thing in order for thing in table.things]):
        raise InvalidOperation("the order does not have each thing of the table")
    if not table.full:
        raise Refused(("zero",))


def least_diagram(table, order):
    """The least diagram along an order that a full table fits."""
    _need_ordered(table, order)
    arrows = []
    for index, effect in enumerate(order):
        for cause in order[:index]:
            rest = lot_of([thing for thing in order[:index] if thing != cause])
            if not table.is_free((cause,), (effect,), rest):
                arrows.append((cause, effect))
    return Diagram(table.things, tuple(sorted(arrows)))


def is_least_diagram(table, order, value):
    """Whether the value is the least diagram along an order."""
    return value == least_diagram(table, order)
