"""What must be seen, and what must be ruled out, before an effect is settled."""
from seenanddone.adjust.erring import widest_adjusting
from seenanddone.base.helpers import is_ascending, lot_of, parts_of
from seenanddone.base.numbers import is_lot, lots_of, without
from seenanddone.deed.twins import is_told
from seenanddone.errors import InvalidLot, InvalidOperation
from seenanddone.web.checks import need_diagram, need_effect
from seenanddone.web.diagrams import Diagram
from seenanddone.web.hiding import projected

MAX_TIES = 6
MAX_MET = 40
WAYS = ("steps", "lot")

_MOST_NAMES = 10


def _need_way(by):
    if by not in WAYS:
        raise InvalidOperation("neither by steps nor by a lot")


def _is_settled(diagram, x, y, by):
    """Whether the effect is settled in a diagram by steps or by a lot."""
    if len(x) == 0:
        return True
    return is_told(diagram, x, y) if by == "steps" else widest_adjusting(diagram, x, y) is not None


def _families(parts, settled):
    """The pair of the ascending tuples of the least settled parts, and of the greatest that are not settled.

    What holds a settled part is settled, too.
    """
    open_parts = [part for part, is_good in zip(parts, settled) if not is_good]
    least = _ends_of([part for part, is_good in zip(parts, settled) if is_good], True)
    return (least, _ends_of(open_parts, False))


def _ends_of(parts, is_least):
    """The ascending tuple of those of some parts that have none of the others within, or are within none."""
    found = []
    for part in parts:
        pairs = [(other, part) if is_least else (part, other) for other in parts if other != part]
        if not any([all([member in greater for member in lesser]) for lesser, greater in pairs]):
            found.append(part)
    return tuple(sorted(found))


def _sights(diagram, x, y, by):
    """The pair of what must be seen and of what leaves the effect open."""
    need_effect(diagram, x, y)
    _need_way(by)
    rest = without(diagram.things, lot_of(x + y))
    lots = [lot_of(x + y + lot) for lot in lots_of(rest)]
    return _families(lots, [_is_settled(projected(diagram, lot), x, y, by) for lot in lots])


def must_see(diagram, x, y, *, by="steps"):
    """The ascending tuple of the least lots for which the effect is settled."""
    return _sights(diagram, x, y, by)[0]


def left_open(diagram, x, y, *, by="steps"):
    """The ascending tuple of the greatest lots for which the effect is not settled."""
    return _sights(diagram, x, y, by)[1]


def are_sights(diagram, x, y, value, *, by="steps"):
    """Whether the value is the pair of what must be seen and of what leaves the effect open."""
    return value == _sights(diagram, x, y, by)


def _need_ties(diagram, ties):
    if not isinstance(ties, tuple) or not all([_is_tie(diagram, tie) for tie in ties]) or not is_ascending(ties):
        raise InvalidOperation("no ascending tuple of ties of the diagram")


def _is_tie(diagram, value):
    """Whether the value tells an arrow, or the pair of a bow, of the diagram."""
    if not isinstance(value, tuple) or len(value) != 3:
        return False
    return (value[0] == "arrow" and value[1:] in diagram.arrows) or (value[0] == "bow" and value[1:] in diagram.bows)


def _left_without(diagram, ties):
    """The diagram without some ties."""
    arrows = tuple([pair for pair in diagram.arrows if ("arrow",) + pair not in ties])
    return Diagram(diagram.things, arrows, tuple([pair for pair in diagram.bows if ("bow",) + pair not in ties]))


def without_ties(diagram, ties):
    """The diagram without some ties."""
    need_diagram(diagram)
    _need_ties(diagram, ties)
    return _left_without(diagram, ties)


def _doubts(diagram, x, y, doubtful, by):
    """The pair of what must be ruled out and of what leaves the effect open."""
    need_effect(diagram, x, y)
    _need_ties(diagram, doubtful)
    if len(doubtful) > MAX_TIES:
        raise InvalidOperation("more than six doubtful ties")
    _need_way(by)
    parts = [part for size in range(len(doubtful) + 1) for part in parts_of(doubtful, size)]
    return _families(parts, [_is_settled(_left_without(diagram, part), x, y, by) for part in parts])


def must_rule_out(diagram, x, y, doubtful, *, by="steps"):
    """The ascending tuple of the least tuples of ties without which the effect is settled."""
    return _doubts(diagram, x, y, doubtful, by)[0]


def still_doubtful(diagram, x, y, doubtful, *, by="steps"):
    """The ascending tuple of the greatest tuples of ties without which the effect is not settled."""
    return _doubts(diagram, x, y, doubtful, by)[1]


def are_doubts(diagram, x, y, doubtful, value, *, by="steps"):
    """Whether the value is the pair of what must be ruled out and of what leaves the effect open."""
    return value == _doubts(diagram, x, y, doubtful, by)


def meeting_lots(lots):
    """The ascending tuple of the least lots that have a name in common with each of some lots."""
    if not isinstance(lots, tuple) or len(lots) > MAX_MET:
        raise InvalidLot("no tuple of at most forty lots")
    if not all([is_lot(lot) for lot in lots]) or not is_ascending(lots):
        raise InvalidLot("the lots are no ascending lots")
    names = lot_of([name for lot in lots for name in lot])
    if len(names) > _MOST_NAMES:
        raise InvalidLot("the lots have more than ten names")
    found = []
    for part in lots_of(names):
        if all([any([name in part for name in lot]) for lot in lots]):
            if not any([all([name in part for name in lesser]) for lesser in found]):
                found.append(part)
    return tuple(sorted(found))
