"""Near things, what meets between two things, and diagrams with the same sayings."""
from seenanddone.bars.barred import is_barred
from seenanddone.base.helpers import lot_of, pairs_of
from seenanddone.base.numbers import is_lot_of, lots_of, without
from seenanddone.errors import Refused, UnknownName
from seenanddone.web.checks import need_bowless, need_diagram, need_two
from seenanddone.web.diagrams import Diagram
from seenanddone.web.trails import is_trail, joints_between, meeting

_MOST_TURNINGS = 15


def are_near(diagram, a, b):
    """Whether no lot of other things bars two things."""
    return binding_trail(diagram, a, b) is not None


def binding_trail(diagram, a, b):
    """The first of the shortest trails that bind two things, or None."""
    need_two(diagram, a, b)
    let = without(diagram.ahead(lot_of((a, b))), lot_of((a, b)))
    begun = [(a,)]
    while begun:
        ended = _bound(diagram, begun, (b,), ("-", "<", ">"))
        if ended:
            return ended[0]
        begun = _bound(diagram, begun, let, ("-", ">"))
    return None


def _bound(diagram, begun, things, joints):
    """The list of what beginnings of trails become by a further thing, if all things between meet on them."""
    return [
        row + (joint, thing)
        for row in begun for thing in things if thing not in row
        for joint in joints_between(diagram, row[-1], thing)
        if joint in joints and (len(row) == 1 or joint in ("-", "<"))
    ]


def is_binding_trail(diagram, a, b, value):
    """Whether the value is a trail that binds two things."""
    need_two(diagram, a, b)
    if not is_trail(diagram, value) or value[0] != a or value[-1] != b:
        return False
    inner = value[2:-1:2]
    return meeting(diagram, value) == inner and is_lot_of(lot_of(inner), diagram.ahead(lot_of((a, b))))


def does_meet(diagram, a, b, c):
    """Whether a thing near two others, which are not near each other, is in no lot that bars these."""
    need_two(diagram, a, b)
    if c not in diagram or c in (a, b):
        raise UnknownName(c)
    if are_near(diagram, a, b) or not are_near(diagram, a, c) or not are_near(diagram, b, c):
        raise Refused(("near",))
    return c not in diagram.ahead(lot_of((a, b)))


def single_sayings(things):
    """The ascending tuple of all sayings (a, b, z) of two things of a lot, and a lot of others."""
    found = []
    for a, b in pairs_of(things):
        others = without(things, (a, b))
        found.extend([(a, b, z) for z in lots_of(others)])
    return tuple(sorted(found))


def answers_of(diagram):
    """The dict from all sayings of two things to whether they hold in a diagram."""
    need_diagram(diagram)
    return {(a, b, z): is_barred(diagram, (a,), (b,), z) for a, b, z in single_sayings(diagram.things)}


def _need_like(one, other):
    need_diagram(one)
    need_diagram(other)
    if one.things != other.things:
        raise Refused(("things",))


def is_same(one, other):
    """Whether two diagrams have the same sayings."""
    return parting_saying(one, other) is None


def parting_saying(one, other):
    """A saying that holds in just one of two diagrams, or None."""
    _need_like(one, other)
    # Without bows some saying of the first kind parts any two diagrams that do not have the same sayings.
    for a, b, z in _ahead_sayings(one) + _ahead_sayings(other) + list(single_sayings(one.things)):
        if is_barred(one, (a,), (b,), z) != is_barred(other, (a,), (b,), z):
            return ((a,), (b,), z)
    return None


def _ahead_sayings(diagram):
    """The list of the sayings of two things of a diagram and of all things ahead of one of them."""
    return [(a, b, without(diagram.ahead((a, b)), (a, b))) for a, b in pairs_of(diagram.things)]


def is_parting_saying(one, other, value):
    """Whether the value is a saying that holds in just one of two diagrams."""
    _need_like(one, other)
    if not isinstance(value, tuple) or len(value) != 3 or not all([is_lot_of(lot, one.things) for lot in value]):
        return False
    x, y, z = value
    if len(x) == 0 or len(y) == 0 or len(lot_of(x + y + z)) < len(x + y + z):
        return False
    return is_barred(one, x, y, z) != is_barred(other, x, y, z)


def _need_turned(one, other):
    need_diagram(one)
    need_diagram(other)
    need_bowless(one)
    need_bowless(other)
    _need_like(one, other)


def can_turn(diagram, arrow):
    """Whether an arrow of a diagram can be turned."""
    cause, effect = arrow
    return diagram.parents(effect) == lot_of(diagram.parents(cause) + (cause,))


def turned_about(diagram, arrow):
    """The diagram with an arrow turned about."""
    arrows = [pair for pair in diagram.arrows if pair != arrow] + [(arrow[1], arrow[0])]
    return Diagram(diagram.things, tuple(sorted(arrows)))


def _meeting_pairs(diagram):
    """For each thing of a diagram without bows the list of the pairs of its parents that are not tied."""
    return [[pair for pair in pairs_of(diagram.parents(thing)) if pair not in diagram.ties] for thing in diagram.things]


def turnings(one, other):
    """A row of turnings from one diagram without bows to another one, or None."""
    _need_turned(one, other)
    # Without bows diagrams with the same ties have the same sayings if the same things meet.
    if one.ties != other.ties or _meeting_pairs(one) != _meeting_pairs(other):
        return None
    row = ()
    made = one
    # Of the arrows that stand otherwise some can always be turned, as the diagrams have the same sayings.
    while made != other:
        arrow = [pair for pair in made.arrows if pair not in other.arrows and can_turn(made, pair)][0]
        row = row + (arrow,)
        made = turned_about(made, arrow)
    return row


def is_turnings(one, other, value):
    """Whether the value is a row of turnings from one diagram without bows to another one."""
    _need_turned(one, other)
    if not isinstance(value, tuple) or len(value) > _MOST_TURNINGS:
        return False
    made = one
    for arrow in value:
        if arrow not in made.arrows or not can_turn(made, arrow):
            return False
        made = turned_about(made, arrow)
    return made == other
