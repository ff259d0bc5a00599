"""Webs of ties without arrows, and tables that split by them."""
from seenanddone.base.helpers import (
    is_ascending, is_row, is_whole_within, lowest, pairs_of, picked, places_in, product_of, reached, rows_of)
from seenanddone.base.numbers import ZERO, common, is_lot, lots_of, without
from seenanddone.errors import InvalidTable, InvalidWeb, Refused, TooMany, UnknownName
from seenanddone.web.diagrams import MAX_THINGS, are_bows
from seenanddone.world.tables import MAX_ROWS, Table, need_table, table_of_shares, tops_of


class Web:
    """Things, and ties between them."""

    def __init__(self, things, ties=()):
        if not is_lot(things) or not 1 <= len(things) <= MAX_THINGS:
            raise InvalidWeb("the things are no lot of one to six names")
        if not are_bows(ties, things):
            raise InvalidWeb("no ascending tuple of ascending pairs of things")
        self._things = things
        self._ties = ties
        self._tied = {
            thing: tuple([pair[1] if pair[0] == thing else pair[0] for pair in ties if thing in pair])
            for thing in things
        }
        self._cliques = _cliques_of(things, ties)

    @property
    def things(self):
        """The lot of the things."""
        return self._things

    @property
    def ties(self):
        """The ascending tuple of the ascending pairs of tied things."""
        return self._ties

    @property
    def cliques(self):
        """The ascending tuple of the lots of things that are all tied to one another, and to no further one."""
        return self._cliques

    def tied(self, thing):
        """The lot of the things that are tied to a thing."""
        if thing not in self._things:
            raise UnknownName(thing)
        return self._tied[thing]

    def __contains__(self, value):
        return value in self._things

    def __len__(self):
        return len(self._things)

    def __eq__(self, other):
        return isinstance(other, Web) and self._things == other._things and self._ties == other._ties

    def __str__(self):
        return f"web of {len(self._things)} things, {len(self._ties)} ties"


def _cliques_of(things, ties):
    """The ascending tuple of the cliques of things with ties."""
    whole = []
    for lot in lots_of(things):
        if all([pair in ties for pair in pairs_of(lot)]):
            whole.append(lot)
    return tuple(sorted([
        lot for lot in whole
        if not any([len(other) > len(lot) and all([thing in other for thing in lot]) for other in whole])
    ]))


def _need_web(web):
    if not isinstance(web, Web):
        raise InvalidWeb("no web")


def _are_all_tied(web, lot):
    return all([pair in web.ties for pair in pairs_of(lot)])


def corner_order(web):
    """A corner order of a web, or None."""
    _need_web(web)
    order = ()
    left = web.things
    while left:
        corners = [
            thing for thing in left
            if _are_all_tied(web, tuple([other for other in web.tied(thing) if other in left]))
        ]
        if len(corners) == 0:
            return None
        order = order + (corners[0],)
        left = without(left, (corners[0],))
    return order


def is_corner_order(web, value):
    """Whether the value is a corner order of a web."""
    _need_web(web)
    if not isinstance(value, tuple) or len(value) != len(web) or not all([thing in value for thing in web.things]):
        return False
    for index, corner in enumerate(value):
        if not _are_all_tied(web, tuple([other for other in web.tied(corner) if other in value[index:]])):
            return False
    return True


def rings_without_chord(web):
    """The list of all rings without a chord of a web, from each of their things and both ways about."""
    found = []
    begun = [(one, other) for one in web.things for other in web.tied(one)]
    while begun:
        longer = []
        for row in begun:
            for thing in web.tied(row[-1]):
                if thing not in row and not any([other in row[1:-1] for other in web.tied(thing)]):
                    longer.append(row + (thing,))
        found.extend([row for row in longer if len(row) > 3 and row[0] in web.tied(row[-1])])
        begun = [row for row in longer if row[0] not in web.tied(row[-1])]
    return found


def ring_without_chord(web):
    """A ring without a chord of a web, or None."""
    _need_web(web)
    rings = rings_without_chord(web)
    return rings[0] if rings else None


def is_ring_without_chord(web, value):
    """Whether the value is a ring without a chord of a web."""
    _need_web(web)
    if not isinstance(value, tuple) or len(value) < 4 or not all([thing in web for thing in value]):
        return False
    if len(set(value)) < len(value):
        return False
    if not all([value[index] in web.tied(value[index - 1]) for index in range(len(value))]):
        return False
    return len([pair for pair in web.ties if pair[0] in value and pair[1] in value]) == len(value)


def join_tree(web):
    """A join tree of a web, or None."""
    if corner_order(web) is None:
        return None
    tree = []
    joined_up = [0]
    away = list(range(1, len(web.cliques)))
    # Of all trees the one whose pairs have the most things in common is a join tree.
    while away:
        steps = [
            (-len(common(web.cliques[one], web.cliques[other])), min(one, other), max(one, other), other)
            for one in joined_up for other in away
        ]
        _, one, other, added = min(steps)
        tree.append((one, other))
        joined_up.append(added)
        away = [index for index in away if index != added]
    return tuple(sorted(tree))


def is_join_tree(web, value):
    """Whether the value is a join tree of a web."""
    _need_web(web)
    many = len(web.cliques)
    if not isinstance(value, tuple) or len(value) != many - 1:
        return False
    for pair in value:
        if not isinstance(pair, tuple) or len(pair) != 2:
            return False
        if not is_whole_within(pair[0], 0, many - 1) or not is_whole_within(pair[1], pair[0] + 1, many - 1):
            return False
    if not is_ascending(value) or not _do_join(value, tuple(range(many))):
        return False
    # What two cliques have in common is on the way between them if the cliques of each thing are joined.
    return all([
        _do_join(value, tuple([index for index in range(many) if thing in web.cliques[index]]))
        for thing in web.things
    ])


def _do_join(pairs, indices):
    """Whether pairs that lie within some indices join all of these."""
    nexts = {
        index: [one + other - index for one, other in pairs if index in (one, other) and one + other - index in indices]
        for index in indices
    }
    return len(indices) == 1 or reached(indices[:1], nexts) == indices


def _need_clique_tables(web, tables):
    _need_web(web)
    if not isinstance(tables, tuple) or len(tables) != len(web.cliques):
        raise InvalidTable("no tuple of a table for each clique")
    sizes = {}
    for clique, table in zip(web.cliques, tables):
        if not isinstance(table, Table) or table.things != clique:
            raise InvalidTable("no table of the things of the clique")
        own = table.sizes
        if any([sizes.setdefault(thing, own[thing]) != own[thing] for thing in own]):
            raise InvalidTable("a thing has unlike sizes")
    return {thing: sizes[thing] for thing in web.things}


def joined(web, tables):
    """The table with these tables on the cliques in which what parts two things in the web makes them free."""
    sizes = _need_clique_tables(web, tables)
    if product_of(list(sizes.values())) > MAX_ROWS:
        raise TooMany(MAX_ROWS)
    tree = join_tree(web)
    if tree is None:
        raise Refused(("ring",))
    for i, j in pairs_of(list(range(len(tables)))):
        shared = common(web.cliques[i], web.cliques[j])
        if len(shared) > 0 and tables[i].summed(shared) != tables[j].summed(shared):
            raise Refused(("unlike", i, j))
    whole = [tops_of(table, table.things) for table in tables]
    spots = [places_in(web.things, clique) for clique in web.cliques]
    lots = [common(web.cliques[i], web.cliques[j]) for i, j in tree]
    parts = [tops_of(tables[pair[0]], lot) for pair, lot in zip(tree, lots)]
    part_spots = [places_in(web.things, lot) for lot in lots]
    found = {}
    for row in rows_of([sizes[thing] for thing in web.things]):
        top = product_of([tops[picked(row, places)] for tops, places in zip(whole, spots)])
        bottom = product_of([tops[picked(row, places)] for tops, places in zip(parts, part_spots)])
        # Where the bottom is 0 the top is, too.
        found[row] = lowest(top, bottom) if top > 0 else ZERO
    return table_of_shares(sizes, found)


def _need_split(table, web):
    need_table(table)
    _need_web(web)
    if web.things != table.things:
        raise InvalidWeb("the web has other things than the table")
    if not table.full:
        raise Refused(("full",))


def does_split(table, web):
    """Whether a full table splits by a web."""
    return unswapped(table, web) is None


def unswapped(table, web):
    """Unswapped rows that show that a full table does not split by a web, or None."""
    _need_split(table, web)
    tops = tops_of(table, table.things)
    for a, b in pairs_of(web.things):
        if (a, b) not in web.ties:
            spots = places_in(web.things, (a, b))
            # If any rows are unswapped, so are some in which the first values are 0, as no share is 0.
            for row in tops:
                if min(picked(row, spots)) > 0:
                    rows = (_with_zeros(row, spots), _with_zeros(row, spots[:1]), _with_zeros(row, spots[1:]), row)
                    if _is_unlike(tops, rows):
                        return rows
    return None


def _with_zeros(row, spots):
    """The row with 0 at some places."""
    return tuple([0 if spot in spots else value for spot, value in enumerate(row)])


def _is_unlike(tops, rows):
    """Whether the product for the first and the last row is another one than for the two between them."""
    p, q, r, s = [tops[row] for row in rows]
    return p * s != q * r


def is_unswapped(table, web, value):
    """Whether the value is unswapped rows."""
    _need_split(table, web)
    sizes = table.sizes
    counts = [sizes[thing] for thing in table.things]
    if not isinstance(value, tuple) or len(value) != 4 or not all([is_row(row, counts) for row in value]):
        return False
    p, q, r, s = value
    spots = [spot for spot in range(len(p)) if p[spot] != s[spot]]
    if len(spots) != 2 or picked(web.things, spots) in web.ties:
        return False
    if not all([p[spot] < s[spot] for spot in spots]):
        return False
    if q != _with_value(p, spots[1], s[spots[1]]) or r != _with_value(p, spots[0], s[spots[0]]):
        return False
    return _is_unlike(tops_of(table, table.things), value)


def _with_value(row, spot, value):
    """The row with another value at one place."""
    return row[:spot] + (value,) + row[spot + 1:]
