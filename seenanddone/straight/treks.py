"""Straight worlds, their covariances, and the treks that these are made of."""
from seenanddone.bars.barred import is_barred, open_trail, ways_into
from seenanddone.bars.felt import joints_of
from seenanddone.base.helpers import is_whole_within, lot_of, lowest, product_of, reached
from seenanddone.base.numbers import is_lot_of
from seenanddone.errors import InvalidLot, InvalidWorld, Refused, UnknownName
from seenanddone.straight.flows import paths_apart
from seenanddone.straight.matrices import rank_and_determinant
from seenanddone.web.checks import need_diagram, need_lot, need_some, need_two
from seenanddone.web.diagrams import Diagram
from seenanddone.web.trails import is_way

_MOST_WEIGHT = 99
_MOST_NOISE = 9999


def _is_weight(value):
    return is_whole_within(value, -_MOST_WEIGHT, _MOST_WEIGHT)


def _are_pulls(value):
    """Whether the value is a pair of weights."""
    return isinstance(value, tuple) and len(value) == 2 and _is_weight(value[0]) and _is_weight(value[1])


def _has_keys(value, keys):
    """Whether the value is a dict with just these keys."""
    return isinstance(value, dict) and len(value) == len(keys) and all([key in value for key in keys])


class Straight:
    """A straight world of a diagram: each thing is a sum, with weights, of what is ahead of it and of a noise."""

    def __init__(self, diagram, weights, pulls, noises):
        need_diagram(diagram)
        if not _has_keys(weights, diagram.arrows) or not all([_is_weight(weights[arrow]) for arrow in weights]):
            raise InvalidWorld("no weights of all arrows")
        if not _has_keys(pulls, diagram.bows) or not all([_are_pulls(pulls[bow]) for bow in pulls]):
            raise InvalidWorld("no pairs of pulls of all bows")
        if not _has_keys(noises, diagram.things):
            raise InvalidWorld("no noises of all things")
        if not all([is_whole_within(noises[thing], 1, _MOST_NOISE) for thing in noises]):
            raise InvalidWorld("a noise is no integer from 1 to 9999")
        self._diagram = diagram
        self._weights = {arrow: weights[arrow] for arrow in diagram.arrows}
        self._pulls = {bow: pulls[bow] for bow in diagram.bows}
        self._noises = {thing: noises[thing] for thing in diagram.things}
        self._covariances = _covariances(diagram, self._weights, self._pulls, self._noises)

    @property
    def diagram(self):
        """The diagram that this is a straight world of."""
        return self._diagram

    @property
    def weights(self):
        """The dict from the arrows to their weights."""
        return {arrow: self._weights[arrow] for arrow in self._weights}

    @property
    def pulls(self):
        """The dict from the bows to the pairs of the pulls at their first and second ends."""
        return {bow: self._pulls[bow] for bow in self._pulls}

    @property
    def noises(self):
        """The dict from the things to the variances of their noises."""
        return {thing: self._noises[thing] for thing in self._noises}

    def covariance(self, a, b):
        """The covariance of two things, or the variance of one."""
        for thing in (a, b):
            if thing not in self._diagram:
                raise UnknownName(thing)
        return self._covariances[(a, b)]

    def block(self, x, y):
        """For each thing of x the tuple of its covariances with the things of y."""
        need_some(x, self._diagram.things)
        need_some(y, self._diagram.things)
        return tuple([tuple([self._covariances[(a, b)] for b in y]) for a in x])

    def rank(self, x, y):
        """The rank of the covariances of the things of x with those of y."""
        return rank_and_determinant(self.block(x, y))[0]

    def coefficient(self, a, b, z):
        """The coefficient of a in the regression of b on a and z."""
        _need_regression(self._diagram, a, b, z)
        lot = (a,) + z
        rows = [[self._covariances[(one, other)] for other in lot] for one in lot]
        told = [[self._covariances[(one, b)]] + row[1:] for one, row in zip(lot, rows)]
        return lowest(rank_and_determinant(told)[1], rank_and_determinant(rows)[1])

    def __eq__(self, other):
        return (isinstance(other, Straight) and self._diagram == other._diagram and self._weights == other._weights
                and self._pulls == other._pulls and self._noises == other._noises)

    def __str__(self):
        return f"straight world of {len(self._noises)} things"


def _covariances(diagram, weights, pulls, noises):
    """The dict from all pairs of things, in both orders, to their covariances."""
    brought = _brought(diagram, weights)
    tops = _tops(diagram, pulls, noises)
    return {
        (a, b): sum([brought[a][one] * tops[(one, other)] * brought[b][other] for one, other in tops])
        for a in diagram.things for b in diagram.things
    }


def _brought(diagram, weights):
    """For each thing the dict from all things to the sums of the products of the weights on the ways from them."""
    brought = {}
    for thing in diagram.order:
        parents = diagram.parents(thing)
        brought[thing] = {
            source: sum([weights[(cause, thing)] * brought[cause][source] for cause in parents])
            for source in diagram.things
        }
        brought[thing][thing] = 1
    return brought


def _tops(diagram, pulls, noises):
    """The dict from single things, as pairs, and the pairs of bows, in both orders, to the worths of such tops."""
    tops = {}
    for thing in diagram.things:
        own = [pulls[bow][bow.index(thing)] for bow in diagram.bows if thing in bow]
        tops[(thing, thing)] = noises[thing] + sum([pull * pull for pull in own])
    for one, other in diagram.bows:
        tops[(one, other)] = product_of(pulls[(one, other)])
        tops[(other, one)] = tops[(one, other)]
    return tops


def _need_regression(diagram, a, b, z):
    need_two(diagram, a, b)
    need_lot(z, diagram.things)
    if a in z or b in z:
        raise InvalidLot("the lot has one of the two things")


def _need_ends(diagram, x, y):
    need_diagram(diagram)
    need_some(x, diagram.things)
    need_some(y, diagram.things)


def _cut_and_treks(diagram, x, y):
    """The pair of a trek cut with the least count and of as many treks apart as there can be."""
    _need_ends(diagram, x, y)
    nexts = {}
    for thing in diagram.things:
        tops = [("right", top) for top in lot_of((thing,) + diagram.bowed(thing))]
        nexts[("left", thing)] = [("left", cause) for cause in diagram.parents(thing)] + tops
        nexts[("right", thing)] = [("right", effect) for effect in diagram.children(thing)]
    starts = [("left", thing) for thing in x]
    paths, cut = paths_apart(nexts, starts, [("right", thing) for thing in y])
    treks = tuple([(_things_of(path, "left")[::-1], _things_of(path, "right")) for path in paths])
    return ((lot_of(_things_of(cut, "left")), lot_of(_things_of(cut, "right"))), treks)


def _things_of(nodes, side):
    """The tuple of the things of the nodes on one side."""
    return tuple([node[1] for node in nodes if node[0] == side])


def trek_cut(diagram, x, y):
    """A trek cut of x and y with the least count."""
    return _cut_and_treks(diagram, x, y)[0]


def is_trek_cut(diagram, x, y, value):
    """Whether the value is a trek cut of x and y with the least count."""
    least = trek_cut(diagram, x, y)
    if not isinstance(value, tuple) or len(value) != 2 or not all([is_lot_of(lot, diagram.things) for lot in value]):
        return False
    if len(value[0]) + len(value[1]) != len(least[0]) + len(least[1]):
        return False
    lefts = _tops_past(diagram, x, value[0])
    rights = _tops_past(diagram, y, value[1])
    tops = [(thing, thing) for thing in diagram.things] + list(diagram.bows) + [bow[::-1] for bow in diagram.bows]
    return not any([one in lefts and other in rights for one, other in tops])


def _tops_past(diagram, ends, lot):
    """The lot of the things from which a way without a thing of a lot leads to some ends."""
    begun = tuple([thing for thing in ends if thing not in lot])
    nexts = {
        thing: [cause for cause in diagram.parents(thing) if cause not in lot]
        for thing in diagram.things
    }
    return lot_of(begun + reached(begun, nexts))


def treks_apart(diagram, x, y):
    """As many treks apart as there can be, each from a thing of x to a thing of y."""
    return _cut_and_treks(diagram, x, y)[1]


def are_treks_apart(diagram, x, y, value):
    """Whether the value is as many treks apart as there can be, each from a thing of x to a thing of y."""
    most = treks_apart(diagram, x, y)
    if not isinstance(value, tuple) or len(value) != len(most):
        return False
    if not all([_is_trek(diagram, x, y, trek) for trek in value]):
        return False
    lefts = [thing for left, _ in value for thing in left]
    rights = [thing for _, right in value for thing in right]
    return len(set(lefts)) == len(lefts) and len(set(rights)) == len(rights)


def _is_trek(diagram, x, y, value):
    """Whether the value is a trek from a thing of x to a thing of y."""
    if not isinstance(value, tuple) or len(value) != 2:
        return False
    left, right = value
    if not is_way(diagram, left) or not is_way(diagram, right) or left[-1] not in x or right[-1] not in y:
        return False
    return left[0] == right[0] or left[0] in diagram.bowed(right[0])


def _need_arrow(diagram, a, b, z):
    _need_regression(diagram, a, b, z)
    if (a, b) not in diagram.arrows:
        raise Refused(("arrow",))


def _without_arrow(diagram, arrow):
    return Diagram(diagram.things, tuple([pair for pair in diagram.arrows if pair != arrow]), diagram.bows)


def single_door(diagram, a, b, z):
    """Whether a lot is a single door of an arrow."""
    _need_arrow(diagram, a, b, z)
    if any([thing in z for thing in diagram.behind((b,))]):
        return False
    return is_barred(_without_arrow(diagram, (a, b)), (a,), (b,), z)


def erring_straight(diagram, a, b, z):
    """A straight world in which the coefficient for z is not the weight of an arrow, or None if z is a single door."""
    if single_door(diagram, a, b, z):
        return None
    # What z holds behind b tells of the noise of b; else an open trail brings to b what the arrow does not.
    branches = ways_into(diagram, (b,), z, ())
    if branches:
        way = (a,) + branches[0]
        return _plain_straight(diagram, [(way[index], way[index + 1]) for index in range(len(way) - 1)], ())
    trail, ways = open_trail(_without_arrow(diagram, (a, b)), (a,), (b,), z)
    arrows, bows = joints_of(diagram, trail, ways)
    return _plain_straight(diagram, arrows, bows)


def _plain_straight(diagram, arrows, bows):
    """The straight world with weights and pulls of 1 at some arrows and bows, and of 0 at all others."""
    weights = {arrow: 1 if arrow in arrows else 0 for arrow in diagram.arrows}
    pulls = {bow: (1, 1) if bow in bows else (0, 0) for bow in diagram.bows}
    return Straight(diagram, weights, pulls, {thing: 1 for thing in diagram.things})


def is_erring_straight(diagram, a, b, z, value):
    """Whether the value is a straight world of the diagram in which the coefficient for z is not the weight."""
    _need_arrow(diagram, a, b, z)
    if not isinstance(value, Straight) or value.diagram != diagram:
        return False
    return value.coefficient(a, b, z) != (value.weights[(a, b)], 1)
