"""Trails and ways through a diagram."""
from seenanddone.base.helpers import pair_of
from seenanddone.errors import InvalidLot, InvalidOperation
from seenanddone.web.checks import need_diagram, need_lot


def joints_between(diagram, left, right):
    """The tuple, in Python's order, of the joints that can stand between two different things."""
    joints = ()
    if pair_of(left, right) in diagram.bows:
        joints = joints + ("-",)
    if (right, left) in diagram.arrows:
        joints = joints + ("<",)
    if (left, right) in diagram.arrows:
        joints = joints + (">",)
    return joints


def is_trail(diagram, value):
    """Whether the value is a trail of the diagram."""
    need_diagram(diagram)
    if not isinstance(value, tuple) or len(value) < 3 or len(value) % 2 == 0:
        return False
    things = value[::2]
    if not all([thing in diagram for thing in things]) or len(set(things)) < len(things):
        return False
    return all([
        value[index] in joints_between(diagram, value[index - 1], value[index + 1])
        for index in range(1, len(value), 2)
    ])


def _need_trail(diagram, trail):
    need_diagram(diagram)
    if not is_trail(diagram, trail):
        raise InvalidOperation("no trail of the diagram")


def meeting(diagram, trail):
    """The tuple of the inner things that meet on a trail."""
    _need_trail(diagram, trail)
    return tuple([
        trail[index] for index in range(2, len(trail) - 1, 2)
        if trail[index - 1] in (">", "-") and trail[index + 1] in ("<", "-")
    ])


def is_open(diagram, trail, z):
    """Whether a trail is open given a lot of things that has neither end of it."""
    _need_trail(diagram, trail)
    need_lot(z, diagram.things)
    if trail[0] in z or trail[-1] in z:
        raise InvalidLot("the lot has an end of the trail")
    meets = meeting(diagram, trail)
    passes = [thing for thing in trail[2:-1:2] if thing not in meets]
    let = diagram.with_ahead(z)
    return all([thing in let for thing in meets]) and not any([thing in z for thing in passes])


def is_way(diagram, value):
    """Whether the value is a tuple of different things from each of which an arrow leads to the next one."""
    need_diagram(diagram)
    if not isinstance(value, tuple) or len(value) == 0 or not all([thing in diagram for thing in value]):
        return False
    # No thing can stand twice, as the arrows have no ring.
    return all([(value[index], value[index + 1]) in diagram.arrows for index in range(len(value) - 1)])


def trails_between(diagram, start, end, inner):
    """The list of all trails from one thing to another one with inner things of a lot alone, the shorter ones first."""
    found = []
    begun = [(start,)]
    while begun:
        found.extend(_longer(diagram, begun, (end,)))
        begun = _longer(diagram, begun, inner)
    return found


def _longer(diagram, begun, things):
    """The list of all that the beginnings of trails become by one joint and one more thing of some things."""
    return [
        row + (joint, thing)
        for row in begun for thing in things if thing not in row
        for joint in joints_between(diagram, row[-1], thing)
    ]
