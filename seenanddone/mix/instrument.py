"""One instrument: an offer, what is taken, and how it goes; mixes of kinds of folk, and bounds of their effect."""
from seenanddone.base.helpers import is_row, is_whole_within, lowest, sum_of
from seenanddone.base.numbers import ONE, ZERO, are_shares, is_fraction
from seenanddone.errors import InvalidOperation, InvalidTable, Refused, TooMany
from seenanddone.mix.moves import cheapest_moves
from seenanddone.web.diagrams import Diagram
from seenanddone.world.tables import Table, tops_of
from seenanddone.world.worlds import World

KINDS = (
    (0, 0, 0, 0), (0, 0, 0, 1), (0, 0, 1, 0), (0, 0, 1, 1), (0, 1, 0, 0), (0, 1, 0, 1), (0, 1, 1, 0), (0, 1, 1, 1),
    (1, 0, 0, 0), (1, 0, 0, 1), (1, 0, 1, 0), (1, 0, 1, 1), (1, 1, 0, 0), (1, 1, 0, 1), (1, 1, 1, 0), (1, 1, 1, 1),
)

_TRIPLES = ((0, 0, 0), (0, 0, 1), (0, 1, 0), (0, 1, 1), (1, 0, 0), (1, 0, 1), (1, 1, 0), (1, 1, 1))
_CELLS = ((0, 0), (0, 1), (1, 0), (1, 1))
_BITS = (2, 2, 2)
_MIX_DIGITS = (10 ** 60) ** 5
_OUTCOME_DIGITS = 10 ** 30


def instrument():
    """The diagram of an offer z, of what is taken, x, and of how it goes, y."""
    return Diagram(("x", "y", "z"), (("x", "y"), ("z", "x")), (("x", "y"),))


def _triple_of(kind, z):
    """What a kind takes, and how it does then, if z is told."""
    x = kind[z]
    return (z, x, kind[2 + x])


def _has_short(fractions, bound):
    """Whether the integers of some fractions are below a bound."""
    return all([abs(top) < bound and bottom < bound for top, bottom in fractions])


def _is_mix(value):
    return are_shares(value) and len(value) == len(KINDS) and _has_short(value, _MIX_DIGITS)


def _need_mix(mix):
    if not _is_mix(mix):
        raise InvalidOperation("no tuple of sixteen shares")


def made_by(mix):
    """The outcomes that a mix makes."""
    _need_mix(mix)
    return {
        triple: sum_of([share for kind, share in zip(KINDS, mix) if _triple_of(kind, triple[0]) == triple])
        for triple in _TRIPLES
    }


def effect_of(mix):
    """The share of the kinds that do well if they take it, less that of those that do well if they do not."""
    _need_mix(mix)
    return sum_of([_scaled(share, kind[3] - kind[2]) for kind, share in zip(KINDS, mix)])


def _scaled(share, number):
    return lowest(share[0] * number, share[1])


def _are_triples(value):
    """Whether the value is a dict from all eight triples to fractions."""
    if not isinstance(value, dict) or len(value) != len(_TRIPLES):
        return False
    return all([is_row(triple, _BITS) for triple in value]) and all([is_fraction(part) for part in value.values()])


def _need_outcomes(outcomes):
    if not _are_triples(outcomes) or not _has_short(list(outcomes.values()), _OUTCOME_DIGITS):
        raise InvalidOperation("no fractions of all triples of bits")
    if any([part[0] < 0 for part in outcomes.values()]):
        raise InvalidOperation("a share is below 0")
    for z in (0, 1):
        if sum_of([outcomes[triple] for triple in _TRIPLES if triple[0] == z]) != ONE:
            raise InvalidOperation("the shares given an offer have another sum than 1")


def four_sums(outcomes):
    """The sums of the shares of (z, x, 0) and (1 - z, x, 1), for (x, z) ascending."""
    _need_outcomes(outcomes)
    return tuple([sum_of((outcomes[(z, x, 0)], outcomes[(1 - z, x, 1)])) for x, z in _CELLS])


def _is_above_one(share):
    return share[0] > share[1]


def broken_sum(outcomes):
    """The index of the first one of the four sums that is above 1, or None."""
    broken = [index for index, share in enumerate(four_sums(outcomes)) if _is_above_one(share)]
    return broken[0] if broken else None


def is_broken_sum(outcomes, value):
    """Whether the value is the index of a sum that is above 1."""
    sums = four_sums(outcomes)
    return is_whole_within(value, 0, len(sums) - 1) and _is_above_one(sums[value])


def mix_of(outcomes):
    """A mix that makes the outcomes, or None."""
    if broken_sum(outcomes) is not None:
        return None
    return _least(outcomes, 1)[0]


def is_mix_of(outcomes, value):
    """Whether the value is a mix that makes the outcomes."""
    _need_outcomes(outcomes)
    return _is_mix(value) and made_by(value) == outcomes


def _kinds_between(one, other):
    """The kinds that do what one cell tells without an offer, and what the other one tells with it."""
    return [kind for kind in KINDS if _triple_of(kind, 0)[1:] == one and _triple_of(kind, 1)[1:] == other]


def _best_kinds(sign):
    """The dict from the pairs of cells that some kind has to the kind whose effect, times the sign, is least."""
    best = {}
    for one in _CELLS:
        for other in _CELLS:
            kinds = [(sign * (kind[3] - kind[2]), kind) for kind in _kinds_between(one, other)]
            if kinds:
                best[(one, other)] = min(kinds)[1]
    return best


def _least(outcomes, sign):
    """A mix whose effect, times the sign, is the least one for outcomes without a broken sum, and its prices."""
    best = _best_kinds(sign)
    costs = {pair: sign * (best[pair][3] - best[pair][2]) for pair in best}
    # Each kind is one of two cells, and moves its share from the one to the other.
    moved, levels = cheapest_moves(
        {cell: outcomes[(0,) + cell] for cell in _CELLS},
        {cell: outcomes[(1,) + cell] for cell in _CELLS}, costs)
    shares = {best[pair]: moved[pair] for pair in moved}
    prices = {(0,) + cell: lowest(-sign * levels[(0, cell)], 1) for cell in _CELLS}
    for cell in _CELLS:
        prices[(1,) + cell] = lowest(sign * levels[(1, cell)], 1)
    return (tuple([shares.get(kind, ZERO) for kind in KINDS]), prices)


def _need_whole(outcomes):
    broken = broken_sum(outcomes)
    if broken is not None:
        raise Refused(("sum", broken))


def least_effect(outcomes):
    """A lower paper: a mix, and prices that show that no mix with these outcomes has a lesser effect."""
    _need_whole(outcomes)
    return _least(outcomes, 1)


def greatest_effect(outcomes):
    """An upper paper: a mix, and prices that show that no mix with these outcomes has a greater effect."""
    _need_whole(outcomes)
    return _least(outcomes, -1)


def is_least_effect(outcomes, value):
    """Whether the value is a lower paper."""
    _need_whole(outcomes)
    return _is_bound(outcomes, value, 1)


def is_greatest_effect(outcomes, value):
    """Whether the value is an upper paper."""
    _need_whole(outcomes)
    return _is_bound(outcomes, value, -1)


def _is_bound(outcomes, value, sign):
    """Whether the value is a lower paper, or, for the sign -1, an upper one."""
    if not isinstance(value, tuple) or len(value) != 2 or not _are_triples(value[1]):
        return False
    mix, prices = value
    if not is_mix_of(outcomes, mix):
        return False
    for kind in KINDS:
        paid = sum_of([prices[_triple_of(kind, z)] for z in (0, 1)])
        if sign * paid[0] > sign * (kind[3] - kind[2]) * paid[1]:
            return False
    parts = [(outcomes[triple], prices[triple]) for triple in _TRIPLES]
    return sum_of([lowest(one[0] * other[0], one[1] * other[1]) for one, other in parts]) == effect_of(mix)


def effect_bounds(outcomes):
    """The pair of the least and of the greatest effect of a mix that makes the outcomes."""
    return (effect_of(least_effect(outcomes)[0]), effect_of(greatest_effect(outcomes)[0]))


def outcomes_of(table):
    """The shares of x and y given z that a table of these things tells."""
    if not isinstance(table, Table) or table.sizes != {"x": 2, "y": 2, "z": 2}:
        raise InvalidTable("no table of x, y and z with two values each")
    tops = tops_of(table, table.things)
    offers = tops_of(table, ("z",))
    for z in (0, 1):
        if offers[(z,)] == 0:
            raise Refused(("offer", z))
    outcomes = {(z, x, y): lowest(tops[(x, y, z)], offers[(z,)]) for z, x, y in _TRIPLES}
    if not _has_short(list(outcomes.values()), _OUTCOME_DIGITS):
        raise TooMany(30)
    return outcomes


def mix_world(mix, offer):
    """The world of the instrument in which z has the shares of an offer, and a hidden kind those of a mix."""
    _need_mix(mix)
    if not are_shares(offer) or len(offer) != 2:
        raise InvalidOperation("no pair of shares")
    sure = ((ONE, ZERO), (ZERO, ONE))
    taken = {(z, index): sure[kind[z]] for z in (0, 1) for index, kind in enumerate(KINDS)}
    going = {(x, index): sure[kind[2 + x]] for x in (0, 1) for index, kind in enumerate(KINDS)}
    return World(
        instrument(), {"x": 2, "y": 2, "z": 2}, {("x", "y"): mix}, {"x": taken, "y": going, "z": {(): offer}})
