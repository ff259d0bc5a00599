"""Worlds of a projected diagram that go over the carriers of the whole one.

A route is what an arrow, or a bow, of the projected diagram goes by: a triple of the spots of its carrier, of the index
of its top among them, and of its size. The spots are the things of the carrier, with each of its bows between the two
things that it joins. The top of an arrow is its cause; that of a bow is the spot at which its part is drawn.
"""
from seenanddone.base.helpers import common_bottom, lowest, pair_of, product_of, rows_of
from seenanddone.base.numbers import ONE, ZERO
from seenanddone.errors import TooMany
from seenanddone.web.hiding import carrier
from seenanddone.world.tables import MAX_ROWS, MAX_VALUES
from seenanddone.world.worlds import MAX_BOTTOM, MAX_HIDDEN, World, bows_at

_FAIR = ((1, 2), (1, 2))


def _does_heed(table, place):
    """Whether two rows of a table that differ at one place alone have unlike shares."""
    firsts = {}
    for row in table:
        if firsts.setdefault(row[:place] + row[place + 1:], table[row]) != table[row]:
            return True
    return False


def _spots_of(trail):
    """The spots of a carrier."""
    spots = [trail[0]]
    for index in range(1, len(trail), 2):
        if trail[index] == "-":
            spots.append(pair_of(trail[index - 1], trail[index + 1]))
        spots.append(trail[index + 1])
    return spots


def _top_of(trail):
    """The index, among the spots of a carrier of a bow, at which it begins both ways."""
    joints = trail[1::2]
    # Up to the top all arrows lead to the first end.
    rising = [joint for joint in joints if joint == "<"]
    return len(rising) + 1 if "-" in joints else len(rising)


def _product_shares(rows):
    """The shares of the rows of values of things that are drawn by themselves."""
    shares = [ONE]
    for row in rows:
        shares = [lowest(one[0] * other[0], one[1] * other[1]) for one in shares for other in row]
    return tuple(shares)


class Lifting:
    """A whole diagram, a world of the projected one, and how what this has goes over the whole one."""

    def __init__(self, diagram, world):
        self._diagram = diagram
        self._lesser = world.diagram
        self._tables = world.tables
        self._hidden = world.hidden
        self._sizes = world.sizes
        self._routes = self._all_routes()
        unseen = [thing for thing in diagram.things if thing not in self._lesser]
        self._parts = {
            spot: [joint for joint in self._routes if spot in self._routes[joint][0]]
            for spot in unseen + list(diagram.bows)
        }
        for spot in self._parts:
            many = product_of([self._routes[joint][2] for joint in self._parts[spot]])
            self._sizes[spot] = many if spot in diagram.bows else max(2, many)

    def _all_routes(self):
        """The dict from the joints that go by carriers to their routes."""
        seen = self._lesser.things
        routes = {}
        for cause, effect in self._lesser.arrows:
            if _does_heed(self._tables[effect], self._lesser.parents(effect).index(cause)):
                joint = (cause, ">", effect)
                routes[joint] = (_spots_of(carrier(self._diagram, seen, joint)), 0, self._sizes[cause])
        for bow in self._lesser.bows:
            if len(self._hidden[bow]) > 1:
                joint = (bow[0], "-", bow[1])
                trail = carrier(self._diagram, seen, joint)
                routes[joint] = (_spots_of(trail), _top_of(trail), len(self._hidden[bow]))
        return routes

    def need_few(self):
        """Raise if there are too many values or rows."""
        if max(list(self._sizes.values())) > MAX_VALUES:
            raise TooMany(MAX_VALUES)
        if product_of([self._sizes[thing] for thing in self._diagram.things]) > MAX_ROWS:
            raise TooMany(MAX_ROWS)
        if product_of([self._sizes[bow] for bow in self._diagram.bows]) > MAX_HIDDEN:
            raise TooMany(MAX_HIDDEN)

    def _drawn_at(self, spot):
        """The list of the shares by which parts are drawn at a spot."""
        tops = [joint for joint in self._parts[spot] if self._routes[joint][0][self._routes[joint][1]] == spot]
        return [self._hidden[(joint[0], joint[2])] for joint in tops]

    def need_short(self):
        """Raise if what is drawn at a thing or a bow has too great a bottom."""
        for spot in self._parts:
            if common_bottom(_product_shares(self._drawn_at(spot)), MAX_BOTTOM) is None:
                raise TooMany(MAX_BOTTOM)

    def world(self):
        """The world of the whole diagram."""
        hidden = {bow: _product_shares(self._drawn_at(bow)) for bow in self._diagram.bows}
        sizes = {thing: self._sizes[thing] for thing in self._diagram.things}
        return World(self._diagram, sizes, hidden, {thing: self._table_of(thing) for thing in sizes})

    def _table_of(self, thing):
        """The table of a thing."""
        heads = self._diagram.parents(thing) + bows_at(self._diagram, thing)
        table = {}
        for row in rows_of([self._sizes[head] for head in heads]):
            held = {head: value for head, value in zip(heads, row)}
            table[row] = self._unseen_shares(held, thing) if thing in self._parts else self._seen_shares(held, thing)
        return table

    def _unseen_shares(self, held, spot):
        """The shares of a thing that is not seen, where what it reads has some values."""
        if len(self._parts[spot]) == 0:
            return _FAIR
        rows = []
        for joint in self._parts[spot]:
            spots, top, size = self._routes[joint]
            if spots[top] == spot:
                rows.append(self._hidden[(joint[0], joint[2])])
            else:
                value = self._come_to(held, joint, spot)
                rows.append(tuple([ONE if index == value else ZERO for index in range(size)]))
        return _product_shares(rows)

    def _seen_shares(self, held, thing):
        """The shares that the table of a seen thing has for the parts that come to it."""
        joints = [(cause, ">", thing) for cause in self._lesser.parents(thing)]
        joints = joints + [(one, "-", other) for one, other in bows_at(self._lesser, thing)]
        # What does not go by a carrier is not heeded, or has one value.
        row = [self._come_to(held, joint, thing) if joint in self._routes else 0 for joint in joints]
        return self._tables[thing][tuple(row)]

    def _come_to(self, held, joint, spot):
        """The part for a joint that comes to a spot, where what the spot reads has some values."""
        spots, top, _ = self._routes[joint]
        index = spots.index(spot)
        source = spots[index + 1] if index < top else spots[index - 1]
        if source not in self._parts:
            return held[source]
        rest = held[source]
        for other in reversed(self._parts[source]):
            size = self._routes[other][2]
            if other == joint:
                return rest - rest // size * size
            rest = rest // size
        return rest
