"""The errors that these parameters have everywhere."""
from seenanddone.base.numbers import is_lot_of
from seenanddone.errors import InvalidDiagram, InvalidLot, Refused, UnknownName
from seenanddone.web.diagrams import Diagram


def need_diagram(diagram):
    """Raise unless it is a diagram."""
    if not isinstance(diagram, Diagram):
        raise InvalidDiagram("no diagram")


def need_lot(lot, names):
    """Raise unless it is a lot of some of the names."""
    if not is_lot_of(lot, names):
        raise InvalidLot("no lot of the things")


def need_some(lot, names):
    """Raise unless it is a lot of some of the names that is not empty."""
    need_lot(lot, names)
    if len(lot) == 0:
        raise InvalidLot("the lot is empty")


def need_lots(x, y, z, names):
    """Raise unless they are three lots of the names that do not meet, the first two not empty."""
    need_some(x, names)
    need_some(y, names)
    need_lot(z, names)
    if any([name in x for name in y]) or any([name in x or name in y for name in z]):
        raise InvalidLot("two of the lots meet")


def need_saying(diagram, x, y, z):
    """Raise unless they are a diagram and three lots of its things that can make a saying."""
    need_diagram(diagram)
    need_lots(x, y, z, diagram.things)


def need_two(diagram, a, b):
    """Raise unless they are a diagram and two different things of it."""
    need_diagram(diagram)
    if a not in diagram:
        raise UnknownName(a)
    if b not in diagram or b == a:
        raise UnknownName(b)


def need_effect(diagram, x, y):
    """Raise unless they are a diagram and two lots of its things that do not meet, the second one not empty."""
    need_diagram(diagram)
    need_lot(x, diagram.things)
    need_some(y, diagram.things)
    if any([thing in x for thing in y]):
        raise InvalidLot("the lots meet")


def need_bowless(diagram):
    """Raise if the diagram has bows."""
    if len(diagram.bows) > 0:
        raise Refused(("bows",))
