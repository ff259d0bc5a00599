"""Diagrams: things, arrows from causes to effects, and bows for hidden common causes."""
from seenanddone.base.helpers import is_ascending, lot_of, pair_of, reached
from seenanddone.base.numbers import is_lot, is_lot_of
from seenanddone.errors import InvalidDiagram, InvalidLot, UnknownName

MAX_THINGS = 6


def are_arrows(value, things):
    """Whether the value is an ascending tuple of pairs of different things."""
    if not isinstance(value, tuple):
        return False
    for pair in value:
        if not isinstance(pair, tuple) or len(pair) != 2:
            return False
        if pair[0] not in things or pair[1] not in things or pair[0] == pair[1]:
            return False
    return is_ascending(value)


def are_bows(value, things):
    """Whether the value is an ascending tuple of ascending pairs of things."""
    return are_arrows(value, things) and all([pair[0] < pair[1] for pair in value])


def has_ring(things, arrows):
    """Whether some arrows between things have a ring."""
    parents = {thing: [cause for cause, effect in arrows if effect == thing] for thing in things}
    return len(_order_of(things, parents)) < len(things)


def _order_of(things, parents):
    """The things, each next one the first whose parents all stand; none of a ring, or behind one, stands."""
    order = ()
    for _ in things:
        ready = [
            thing for thing in things
            if thing not in order and all([cause in order for cause in parents[thing]])
        ]
        order = order + tuple(ready[:1])
    return order


def districts_of(things, bowed):
    """The lots of things that rows of bows join, by their first things; bowed tells what bows join to each."""
    districts = []
    met = ()
    for thing in things:
        if thing not in met:
            district = lot_of((thing,) + reached((thing,), bowed))
            districts.append(district)
            met = met + district
    return tuple(districts)


class Diagram:
    """Things, and the arrows and bows between them."""

    def __init__(self, things, arrows=(), bows=()):
        if not is_lot(things) or not 1 <= len(things) <= MAX_THINGS:
            raise InvalidDiagram("the things are no lot of one to six names")
        if not are_arrows(arrows, things) or not are_bows(bows, things):
            raise InvalidDiagram("no ascending tuples of pairs of things")
        self._things = things
        self._arrows = arrows
        self._bows = bows
        self._ties = tuple(sorted(set([pair_of(one, other) for one, other in arrows + bows])))
        self._parents = {thing: tuple([pair[0] for pair in arrows if pair[1] == thing]) for thing in things}
        self._children = {thing: tuple([pair[1] for pair in arrows if pair[0] == thing]) for thing in things}
        self._bowed = {
            thing: tuple([pair[1] if pair[0] == thing else pair[0] for pair in bows if thing in pair])
            for thing in things
        }
        self._order = _order_of(things, self._parents)
        self._districts = districts_of(things, self._bowed)
        if len(self._order) < len(things):
            raise InvalidDiagram("the arrows have a ring")

    @property
    def things(self):
        """The lot of the things."""
        return self._things

    @property
    def arrows(self):
        """The ascending tuple of the pairs of a cause and an effect."""
        return self._arrows

    @property
    def bows(self):
        """The ascending tuple of the pairs of things with a hidden common cause."""
        return self._bows

    @property
    def ties(self):
        """The ascending tuple of the pairs that an arrow or a bow joins."""
        return self._ties

    @property
    def order(self):
        """All things, each behind its parents, and otherwise in Python's order."""
        return self._order

    @property
    def districts(self):
        """The lots of the things that rows of bows join, by their first things."""
        return self._districts

    def parents(self, thing):
        """The lot of the causes of the arrows to a thing."""
        self._need_thing(thing)
        return self._parents[thing]

    def children(self, thing):
        """The lot of the effects of the arrows from a thing."""
        self._need_thing(thing)
        return self._children[thing]

    def bowed(self, thing):
        """The lot of the things that a bow joins to a thing."""
        self._need_thing(thing)
        return self._bowed[thing]

    def district(self, thing):
        """The district that a thing is in."""
        self._need_thing(thing)
        return lot_of((thing,) + reached((thing,), self._bowed))

    def ahead(self, lot):
        """The lot of all things ahead of some thing of a lot."""
        self._need_lot(lot)
        return reached(lot, self._parents)

    def behind(self, lot):
        """The lot of all things behind some thing of a lot."""
        self._need_lot(lot)
        return reached(lot, self._children)

    def with_ahead(self, lot):
        """A lot together with all things ahead of it."""
        return lot_of(self.ahead(lot) + lot)

    def with_behind(self, lot):
        """A lot together with all things behind it."""
        return lot_of(self.behind(lot) + lot)

    def cut(self, lot):
        """The diagram without the arrows and bows to the things of a lot."""
        self._need_lot(lot)
        arrows = tuple([pair for pair in self._arrows if pair[1] not in lot])
        bows = tuple([pair for pair in self._bows if pair[0] not in lot and pair[1] not in lot])
        return Diagram(self._things, arrows, bows)

    def bare(self, lot):
        """The diagram without the arrows from the things of a lot."""
        self._need_lot(lot)
        return Diagram(self._things, tuple([pair for pair in self._arrows if pair[0] not in lot]), self._bows)

    def part(self, lot):
        """The things of a lot that is not empty, with the arrows and bows among them."""
        self._need_lot(lot)
        if len(lot) == 0:
            raise InvalidLot("a part has one thing at least")
        arrows = tuple([pair for pair in self._arrows if pair[0] in lot and pair[1] in lot])
        bows = tuple([pair for pair in self._bows if pair[0] in lot and pair[1] in lot])
        return Diagram(lot, arrows, bows)

    def _need_thing(self, thing):
        if thing not in self._things:
            raise UnknownName(thing)

    def _need_lot(self, lot):
        if not is_lot_of(lot, self._things):
            raise InvalidLot("no lot of things of the diagram")

    def __contains__(self, value):
        return value in self._things

    def __len__(self):
        return len(self._things)

    def __iter__(self):
        return iter(self._things)

    def __eq__(self, other):
        return (isinstance(other, Diagram) and self._things == other._things
                and self._arrows == other._arrows and self._bows == other._bows)

    def __str__(self):
        return f"diagram of {len(self._things)} things, {len(self._arrows)} arrows, {len(self._bows)} bows"
