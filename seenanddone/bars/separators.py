"""Least lots that bar two things, lightest ones, and the roads that pay for them."""
from seenanddone.bars.barred import is_barred, tied_to
from seenanddone.base.helpers import is_ascending, is_whole, is_whole_within, lot_of
from seenanddone.base.numbers import is_lot_of, lots_of
from seenanddone.errors import InvalidLot, InvalidOperation
from seenanddone.web.checks import need_diagram, need_lot, need_lots, need_two

MAX_PRICE = 1000


def least_separators(diagram, a, b):
    """The ascending tuple of all least separators of two things."""
    need_two(diagram, a, b)
    others = tuple([thing for thing in diagram.things if thing not in (a, b)])
    least = []
    for lot in lots_of(others):
        is_least = not any([is_lot_of(one, lot) for one in least])
        if is_least and is_barred(diagram, (a,), (b,), lot):
            least.append(lot)
    return tuple(sorted(least))


def is_least_separator(diagram, a, b, value):
    """Whether the value is a least separator of two things."""
    return value in least_separators(diagram, a, b)


def nearest(diagram, a, b):
    """The least separator each thing of which has a tie to a, or None if no lot bars the two things."""
    separators = least_separators(diagram, a, b)
    tied = tied_to(diagram, diagram.with_ahead(lot_of((a, b))))
    for lot in separators:
        if is_lot_of(lot, tied[a]):
            return lot
    return None


def need_priced(diagram, x, y, prices, must):
    """Raise unless they are a diagram, two lots of its things, prices of others, and a lot without a price."""
    need_diagram(diagram)
    need_lots(x, y, (), diagram.things)
    if not isinstance(prices, dict):
        raise InvalidOperation("the prices are no dict")
    if not all([thing in diagram and is_whole_within(prices[thing], 1, MAX_PRICE) for thing in prices]):
        raise InvalidOperation("no prices from 1 to 1000 of things")
    if any([thing in x or thing in y for thing in prices]):
        raise InvalidOperation("a thing of x or y has a price")
    need_lot(must, diagram.things)
    if any([thing in x or thing in y or thing in prices for thing in must]):
        raise InvalidLot("the lot that is taken meets x, y or the things with a price")


def _web_of(diagram, x, y, must):
    """The dict from the things of the web of x, y and must, without must, to the lots of the things tied to them."""
    tied = tied_to(diagram, diagram.with_ahead(lot_of(x + y + must)))
    return {
        thing: tuple([other for other in tied[thing] if other not in must])
        for thing in tied if thing not in must
    }


def _is_road(web, x, y, value):
    """Whether the value is a road from x to y in a web."""
    if not isinstance(value, tuple) or len(value) < 2 or not all([thing in tuple(web) for thing in value]):
        return False
    if len(set(value)) < len(value) or value[0] not in x or value[-1] not in y:
        return False
    if any([thing in x or thing in y for thing in value[1:-1]]):
        return False
    return all([value[index + 1] in web[value[index]] for index in range(len(value) - 1)])


def _roads_of(web, x, y):
    """The list of all roads from x to y in a web, the shorter ones first."""
    found = []
    begun = [(thing,) for thing in x]
    while begun:
        longer = [road + (thing,) for road in begun for thing in web[road[-1]] if thing not in road]
        found.extend([road for road in longer if road[-1] in y])
        begun = [road for road in longer if road[-1] not in x and road[-1] not in y]
    return found


def _price_of(lot, prices):
    return sum([prices[thing] for thing in lot if thing in prices])


def lightest(diagram, x, y, prices, *, must=()):
    """A lightest lot that bars x and y with the roads that pay for it, or None if no let lot bars them."""
    need_priced(diagram, x, y, prices, must)
    roads = _roads_of(_web_of(diagram, x, y, must), x, y)
    priced = tuple(sorted(prices))
    cuts = []
    for lot in lots_of(priced):
        if all([any([thing in lot for thing in road]) for road in roads]):
            cuts.append(lot)
    if len(cuts) == 0:
        return None
    best = min([(_price_of(lot, prices), lot) for lot in cuts])[1]
    return (lot_of(best + must), _paying(roads, cuts, prices))


def _paying(roads, cuts, prices):
    """The ascending tuple of roads with amounts that pay for a cheapest one of the cuts."""
    # Each road gets as much as leaves enough for all others: no cut becomes cheaper than the cheapest
    # one has become. Then nothing more can be given to a road later on, and all that is left is for
    # the roads behind it, so that in the end a cheapest cut is paid for.
    left = {thing: prices[thing] for thing in prices}
    paid = []
    for road in roads:
        costs = [(_price_of(lot, left), len([thing for thing in road if thing in lot])) for lot in cuts]
        least = min([cost for cost, _ in costs])
        bounds = [left[thing] for thing in road if thing in left]
        bounds.extend([(cost - least) // (met - 1) for cost, met in costs if met > 1])
        amount = min(bounds)
        if amount > 0:
            paid.append((amount, road))
            for owed in list(left):
                left[owed] = left[owed] - amount if owed in road else left[owed]
    return tuple(sorted(paid))


def is_lightest(diagram, x, y, prices, value, *, must=()):
    """Whether the value is a lightest lot that bars x and y with roads that pay for it."""
    need_priced(diagram, x, y, prices, must)
    if not isinstance(value, tuple) or len(value) != 2:
        return False
    lot, roads = value
    if not is_lot_of(lot, must + tuple(prices)) or not all([thing in lot for thing in must]):
        return False
    if not is_barred(diagram, x, y, lot):
        return False
    return _do_pay(_web_of(diagram, x, y, must), x, y, prices, lot, roads)


def _do_pay(web, x, y, prices, lot, value):
    """Whether the value is roads in a web that pay for a lot."""
    if not isinstance(value, tuple):
        return False
    for part in value:
        if not isinstance(part, tuple) or len(part) != 2:
            return False
        if not is_whole(part[0]) or part[0] < 1 or not _is_road(web, x, y, part[1]):
            return False
    if not is_ascending(value) or sum([amount for amount, _ in value]) != _price_of(lot, prices):
        return False
    return all([
        sum([amount for amount, road in value if thing in road]) <= prices[thing]
        for thing in prices
    ])


def free_road(diagram, x, y, prices, *, must=()):
    """A road from x to y without a thing of must and without a thing with a price, or None."""
    need_priced(diagram, x, y, prices, must)
    for road in _roads_of(_web_of(diagram, x, y, must), x, y):
        if not any([thing in prices for thing in road]):
            return road
    return None


def is_free_road(diagram, x, y, prices, value, *, must=()):
    """Whether the value is a road from x to y without a thing of must and without a thing with a price."""
    need_priced(diagram, x, y, prices, must)
    if not _is_road(_web_of(diagram, x, y, must), x, y, value):
        return False
    return not any([thing in prices for thing in value])
