"""Diagrams of which somebody sees a part of the things alone, and hidden causes that become things."""
from seenanddone.base.helpers import pairs_of, picked, places_in, product_of
from seenanddone.base.numbers import is_name, without
from seenanddone.errors import InvalidOperation, TooMany
from seenanddone.web.checks import need_diagram, need_some
from seenanddone.web.diagrams import MAX_THINGS, Diagram
from seenanddone.web.trails import is_trail, meeting, trails_between
from seenanddone.world.tables import MAX_ROWS
from seenanddone.world.worlds import World, bows_at, need_world


def _need_seen(diagram, seen):
    need_diagram(diagram)
    need_some(seen, diagram.things)


def _sign_of(trail):
    """The sign of the joint that a carrier carries."""
    joints = trail[1::2]
    for sign in (">", "<"):
        if all([joint == sign for joint in joints]):
            return sign
    return "-"


def _carriers(diagram, seen, start, end):
    """The list of all carriers between two seen things, the shorter ones first."""
    trails = trails_between(diagram, start, end, without(diagram.things, seen))
    return [trail for trail in trails if len(meeting(diagram, trail)) == 0]


def projected(diagram, seen):
    """The diagram of the seen things alone, with what is carried between them."""
    _need_seen(diagram, seen)
    arrows = []
    bows = []
    for pair in pairs_of(seen):
        signs = [_sign_of(trail) for trail in _carriers(diagram, seen, pair[0], pair[1])]
        if ">" in signs:
            arrows.append(pair)
        if "<" in signs:
            arrows.append((pair[1], pair[0]))
        if "-" in signs:
            bows.append(pair)
    return Diagram(seen, tuple(sorted(arrows)), tuple(bows))


def _need_joint(diagram, seen, joint):
    _need_seen(diagram, seen)
    if not isinstance(joint, tuple) or len(joint) != 3 or joint[0] not in seen or joint[2] not in seen:
        raise InvalidOperation("no joint of two seen things")
    is_arrow = joint[1] == ">" and joint[0] != joint[2]
    is_bow = joint[1] == "-" and joint[0] < joint[2]
    if not is_arrow and not is_bow:
        raise InvalidOperation("no joint of two seen things")


def carrier(diagram, seen, joint):
    """The first of the shortest carriers of a joint, or None."""
    _need_joint(diagram, seen, joint)
    start, sign, end = joint
    found = [trail for trail in _carriers(diagram, seen, start, end) if _sign_of(trail) == sign]
    if len(found) == 0:
        return None
    return min([trail for trail in found if len(trail) == len(found[0])])


def is_carrier(diagram, seen, joint, value):
    """Whether the value is a carrier of a joint."""
    _need_joint(diagram, seen, joint)
    if not is_trail(diagram, value) or value[0] != joint[0] or value[-1] != joint[2]:
        return False
    if any([thing in seen for thing in value[2:-1:2]]):
        return False
    return len(meeting(diagram, value)) == 0 and _sign_of(value) == joint[1]


def _are_names(diagram, value):
    """Whether the value is a dict from some of the bows to different names that are no things."""
    if not isinstance(value, dict) or not all([bow in diagram.bows for bow in value]):
        return False
    names = list(value.values())
    if not all([is_name(name) and name not in diagram for name in names]):
        return False
    return len(set(names)) == len(names)


def _unfolded(diagram, names):
    """The diagram in which some bows become things; raise if there are too many."""
    things = tuple(sorted(diagram.things + tuple(names.values())))
    if len(things) > MAX_THINGS:
        raise TooMany(MAX_THINGS)
    arrows = diagram.arrows + tuple([(names[bow], thing) for bow in names for thing in bow])
    return Diagram(things, tuple(sorted(arrows)), tuple([bow for bow in diagram.bows if bow not in names]))


def unfolded(diagram, names):
    """The diagram in which some bows become things with names."""
    need_diagram(diagram)
    if not _are_names(diagram, names):
        raise InvalidOperation("no new names of bows of the diagram")
    return _unfolded(diagram, names)


def unfolded_world(world, names):
    """The world in which the hidden things of some bows become things with names."""
    need_world(world)
    if not _are_names(world.diagram, names):
        raise InvalidOperation("no new names of bows of the diagram")
    hidden = world.hidden
    if any([len(hidden[bow]) < 2 for bow in names]):
        raise InvalidOperation("a hidden thing with one value alone can be no thing")
    diagram = _unfolded(world.diagram, names)
    sizes = world.sizes
    tables = {thing: _moved_table(world, diagram, names, thing) for thing in world.diagram.things}
    for bow in names:
        sizes[names[bow]] = len(hidden[bow])
        tables[names[bow]] = {(): hidden[bow]}
    if product_of(list(sizes.values())) > MAX_ROWS:
        raise TooMany(MAX_ROWS)
    return World(diagram, sizes, {bow: hidden[bow] for bow in diagram.bows}, tables)


def _moved_table(world, diagram, names, thing):
    """The table of a thing of the world, with the places that its rows have in the unfolded diagram."""
    bows = bows_at(world.diagram, thing)
    read = world.diagram.parents(thing) + tuple([names.get(bow, bow) for bow in bows])
    places = places_in(read, diagram.parents(thing) + bows_at(diagram, thing))
    table = world.tables[thing]
    return {picked(row, places): table[row] for row in table}
