"""Worlds of diagrams: how hidden things and things are drawn."""
from seenanddone.base.helpers import common_bottom, is_row, is_whole_within, picked, places_in, product_of, rows_of
from seenanddone.base.numbers import HALF, are_shares
from seenanddone.errors import InvalidNumber, InvalidWorld, TooMany
from seenanddone.web.checks import need_diagram
from seenanddone.world.tables import MAX_ROWS, MAX_VALUES, are_sizes, table_of

MAX_HIDDEN = 256
MAX_BOTTOM = 1000000

_MOST_BOWS = 8


def bows_at(diagram, thing):
    """The ascending tuple of the bows of a thing."""
    return tuple([bow for bow in diagram.bows if thing in bow])


def _are_hidden(diagram, value):
    """Whether the value is a dict from all bows to shares of their hidden things."""
    if not isinstance(value, dict) or len(value) != len(diagram.bows):
        return False
    if not all([bow in value for bow in diagram.bows]):
        return False
    for bow in value:
        if not are_shares(value[bow]) or len(value[bow]) > MAX_VALUES:
            return False
    if product_of([len(value[bow]) for bow in value]) > MAX_HIDDEN:
        return False
    return all([common_bottom(value[bow], MAX_BOTTOM) is not None for bow in value])


def _are_thing_shares(value, counts, size):
    """Whether the value is a dict from all rows with these numbers of values to shares of so many values."""
    if not isinstance(value, dict) or len(value) != product_of(counts):
        return False
    for row in value:
        if not is_row(row, counts) or not are_shares(value[row]) or len(value[row]) != size:
            return False
    return common_bottom([part for row in value for part in value[row]], MAX_BOTTOM) is not None


def _are_tables(diagram, sizes, hidden, value):
    """Whether the value is a dict from all things to their tables."""
    if not isinstance(value, dict) or len(value) != len(diagram):
        return False
    if not all([thing in value for thing in diagram.things]):
        return False
    return all([
        _are_thing_shares(value[thing], _counts_of(diagram, sizes, hidden, thing), sizes[thing])
        for thing in diagram.things
    ])


def _counts_of(diagram, sizes, hidden, thing):
    """The numbers of values of what the table of a thing reads: its parents, then the hidden things of its bows."""
    parents = [sizes[cause] for cause in diagram.parents(thing)]
    return parents + [len(hidden[bow]) for bow in bows_at(diagram, thing)]


class World:
    """A world of a diagram."""

    def __init__(self, diagram, sizes, hidden, tables):
        need_diagram(diagram)
        if not are_sizes(sizes) or tuple(sorted(sizes)) != diagram.things:
            raise InvalidWorld("no numbers of values of all things")
        if not _are_hidden(diagram, hidden):
            raise InvalidWorld("no shares of the hidden things of all bows")
        if not _are_tables(diagram, sizes, hidden, tables):
            raise InvalidWorld("no tables of all things")
        self._diagram = diagram
        self._sizes = {thing: sizes[thing] for thing in diagram.things}
        self._hidden = {bow: hidden[bow] for bow in diagram.bows}
        self._tables = {
            thing: {row: tables[thing][row] for row in rows_of(_counts_of(diagram, sizes, hidden, thing))}
            for thing in diagram.things
        }
        self._seen = table_of(self._sizes, seen_tops(diagram, self._sizes, self._hidden, self._tables))

    @property
    def diagram(self):
        """The diagram that this is a world of."""
        return self._diagram

    @property
    def sizes(self):
        """The dict from the things to their numbers of values."""
        return {thing: self._sizes[thing] for thing in self._sizes}

    @property
    def hidden(self):
        """The dict from the bows to the shares of their hidden things."""
        return {bow: self._hidden[bow] for bow in self._hidden}

    @property
    def tables(self):
        """The dict from the things to the dicts from what they read to the shares of their values."""
        return {
            thing: {row: self._tables[thing][row] for row in self._tables[thing]}
            for thing in self._tables
        }

    @property
    def seen(self):
        """The seen table."""
        return self._seen

    @property
    def full(self):
        """Whether each row can be seen."""
        return self._seen.full

    def __len__(self):
        return len(self._seen)

    def __eq__(self, other):
        return (isinstance(other, World) and self._diagram == other._diagram and self._sizes == other._sizes
                and self._hidden == other._hidden and self._tables == other._tables)

    def __str__(self):
        return f"world of {len(self._sizes)} things, {len(self._hidden)} bows"


def need_world(world):
    """Raise unless it is a world."""
    if not isinstance(world, World):
        raise InvalidWorld("no world")


def seen_tops(diagram, sizes, hidden, tables):
    """The dict from all rows to numbers that are to one another as the seen shares are."""
    whole = rows_of([sizes[thing] for thing in diagram.things])
    heads = {thing: rows_of([sizes[cause] for cause in diagram.parents(thing)]) for thing in diagram.things}
    spots = {thing: _spots_of(diagram, thing, sizes[thing], heads[thing], whole) for thing in diagram.things}
    scaled = {thing: scaled_table(tables[thing]) for thing in diagram.things}
    draws = {bow: tops_over(hidden[bow], common_bottom(hidden[bow])) for bow in diagram.bows}
    found = [0 for _ in whole]
    for values in rows_of([len(hidden[bow]) for bow in diagram.bows]):
        drawn = {bow: value for bow, value in zip(diagram.bows, values)}
        weight = product_of([draws[bow][drawn[bow]] for bow in drawn])
        weights = [weight for _ in whole]
        for thing in diagram.things:
            held = tuple([drawn[bow] for bow in bows_at(diagram, thing)])
            tops = [top for head in heads[thing] for top in scaled[thing][head + held]]
            weights = [one * tops[spot] for one, spot in zip(weights, spots[thing])]
        found = [one + other for one, other in zip(found, weights)]
    return {row: top for row, top in zip(whole, found)}


def scaled_table(table):
    """The dict from the rows of the table of a thing to lists of the shares, times their common bottom."""
    bottom = common_bottom([part for row in table for part in table[row]])
    return {row: tops_over(table[row], bottom) for row in table}


def tops_over(shares, bottom):
    """The list of the tops that some shares have over a common bottom."""
    return [top * (bottom // own) for top, own in shares]


def _spots_of(diagram, thing, size, heads, whole):
    """For each row of all things the place of its share in the table of a thing, read row by row of its parents."""
    firsts = {head: index * size for index, head in enumerate(heads)}
    places = places_in(diagram.things, diagram.parents(thing))
    own = diagram.things.index(thing)
    return [firsts[picked(row, places)] + row[own] for row in whole]


def even_world(diagram, size=2):
    """The world in which all is drawn evenly: things of so many values, hidden things of two."""
    need_diagram(diagram)
    if not is_whole_within(size, 2, MAX_VALUES):
        raise InvalidNumber(size)
    if product_of([size for _ in diagram.things]) > MAX_ROWS:
        raise TooMany(MAX_ROWS)
    if len(diagram.bows) > _MOST_BOWS:
        raise TooMany(MAX_HIDDEN)
    sizes = {thing: size for thing in diagram.things}
    hidden = {bow: (HALF, HALF) for bow in diagram.bows}
    even = tuple([(1, size) for _ in range(size)])
    tables = {
        thing: {row: even for row in rows_of(_counts_of(diagram, sizes, hidden, thing))}
        for thing in diagram.things
    }
    return World(diagram, sizes, hidden, tables)
