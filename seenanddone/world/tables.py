"""Tables: the shares of all rows of values of some things."""
from math import gcd

from seenanddone.base.helpers import (
    common_bottom, is_row, is_whole_within, lcm_of, lot_of, lowest, picked, places_in, product_of, rows_of)
from seenanddone.base.numbers import ONE, ZERO, is_fraction, is_name
from seenanddone.errors import InvalidDeed, InvalidTable
from seenanddone.web.checks import need_lot, need_lots, need_some

MAX_VALUES = 16
MAX_ROWS = 4096

_MOST_THINGS = 6


def are_sizes(value):
    """Whether the value is a dict from one to six names to numbers of values that a table can have."""
    if not isinstance(value, dict) or not 1 <= len(value) <= _MOST_THINGS:
        return False
    if not all([is_name(name) and is_whole_within(value[name], 2, MAX_VALUES) for name in value]):
        return False
    return product_of(list(value.values())) <= MAX_ROWS


def are_row_fractions(value, counts):
    """Whether the value is a dict from all rows of things with these numbers of values to fractions of at least 0."""
    if not isinstance(value, dict) or len(value) != product_of(counts):
        return False
    if not all([is_row(row, counts) for row in value]):
        return False
    return all([is_fraction(part) and part[0] >= 0 for part in list(value.values())])


class Table:
    """The shares of all rows of a lot of things."""

    def __init__(self, sizes, shares):
        if not are_sizes(sizes):
            raise InvalidTable("no numbers of values of one to six things")
        if not are_row_fractions(shares, [sizes[thing] for thing in sorted(sizes)]):
            raise InvalidTable("no fractions of all rows")
        bottom = common_bottom(list(shares.values()))
        if bottom is None:
            raise InvalidTable("the bottoms have no common multiple of at most 1000 digits")
        tops = {row: shares[row][0] * (bottom // shares[row][1]) for row in shares}
        if sum(tops.values()) != bottom:
            raise InvalidTable("the sum of the shares is not 1")
        self._keep(sizes, tops)

    def _keep(self, sizes, tops):
        """Keep shares that are to one another as the tops are; equal tables keep equal tops."""
        bottom = sum(tops.values())
        shared = 0
        for row in tops:
            shared = gcd(shared, tops[row])
        self._things = tuple(sorted(sizes))
        self._sizes = {thing: sizes[thing] for thing in self._things}
        self._bottom = bottom // shared
        self._tops = {row: tops[row] // shared for row in self._rows_of(self._things)}

    def _rows_of(self, lot):
        return rows_of([self._sizes[thing] for thing in lot])

    @property
    def things(self):
        """The lot of the things."""
        return self._things

    @property
    def sizes(self):
        """The dict from the things to their numbers of values."""
        return {thing: self._sizes[thing] for thing in self._sizes}

    @property
    def shares(self):
        """The dict from all rows to their shares."""
        return {row: lowest(self._tops[row], self._bottom) for row in self._tops}

    @property
    def full(self):
        """Whether no share is 0."""
        return all([self._tops[row] > 0 for row in self._tops])

    def share(self, event):
        """The share of all rows that agree with an event."""
        self._need_event(event)
        return lowest(self._top_of(event), self._bottom)

    def share_given(self, event, seen):
        """The share of both events divided by that of the seen one, or None if this is 0."""
        self._need_event(event)
        self._need_event(seen)
        if any([thing in event for thing in seen]):
            raise InvalidDeed("the events have a thing in common")
        whole = self._top_of(seen)
        if whole == 0:
            return None
        return lowest(self._top_of({**event, **seen}), whole)

    def summed(self, lot):
        """The table of some of the things."""
        need_some(lot, self._things)
        return table_of({thing: self._sizes[thing] for thing in lot}, self._summed_tops(lot))

    def is_free(self, x, y, z):
        """Whether x and y are free of each other given z."""
        need_lots(x, y, z, self._things)
        lots = [lot_of(x + y + z), z, lot_of(x + z), lot_of(y + z)]
        whole = self._summed_tops(lots[0])
        seen, one, other = [self._summed_tops(lot) for lot in lots[1:]]
        places = [places_in(lots[0], lot) for lot in lots[1:]]
        for row in whole:
            at_seen, at_one, at_other = [picked(row, part) for part in places]
            if whole[row] * seen[at_seen] != one[at_one] * other[at_other]:
                return False
        return True

    def rows(self, lot=None):
        """All rows of a lot of the things, of all things for None."""
        if lot is not None:
            need_lot(lot, self._things)
        for row in self._rows_of(self._things if lot is None else lot):
            yield row

    def _need_event(self, event):
        if not isinstance(event, dict):
            raise InvalidDeed("no event")
        for thing in event:
            if thing not in self._things or not is_whole_within(event[thing], 0, self._sizes[thing] - 1):
                raise InvalidDeed("no values of things of the table")

    def _top_of(self, event):
        """The share of an event, times the common bottom."""
        asked = [(self._things.index(thing), event[thing]) for thing in event]
        return sum([
            self._tops[row] for row in self._tops
            if all([row[place] == value for place, value in asked])
        ])

    def _summed_tops(self, lot):
        """The dict from all rows of a lot to their shares, times the common bottom."""
        places = places_in(self._things, lot)
        tops = {row: 0 for row in self._rows_of(lot)}
        for row in self._tops:
            part = picked(row, places)
            tops[part] = tops[part] + self._tops[row]
        return tops

    def __len__(self):
        return len(self._tops)

    def __eq__(self, other):
        return isinstance(other, Table) and self._sizes == other._sizes and self._tops == other._tops

    def __str__(self):
        return f"table of {len(self._things)} things, {len(self._tops)} rows"


def need_table(table):
    """Raise unless it is a table."""
    if not isinstance(table, Table):
        raise InvalidTable("no table")


def tops_of(table, lot):
    """The dict from all rows of a lot to their shares, times one number that all lots of a table have in common."""
    return table._summed_tops(lot)


def table_of_shares(sizes, shares):
    """The table with these shares; its bottoms may pass the bound of a Table."""
    bottom = lcm_of([part[1] for part in list(shares.values())])
    return table_of(sizes, {row: shares[row][0] * (bottom // shares[row][1]) for row in shares})


def table_of(sizes, tops):
    """The table whose shares are to one another as the tops are; its bottoms may pass the bound of a Table."""
    table = Table({"a": 2}, {(0,): ONE, (1,): ZERO})
    table._keep(sizes, tops)
    return table
