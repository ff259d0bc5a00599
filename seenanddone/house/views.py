"""Views: what somebody who sees a part of the things can know."""
from seenanddone.ask.questions import decide, is_paper
from seenanddone.base.helpers import lot_of
from seenanddone.base.numbers import is_lot_of, lots_of, without
from seenanddone.deed.twins import is_told
from seenanddone.errors import InvalidLot, InvalidOperation, InvalidWorld
from seenanddone.house.lifting import Lifting
from seenanddone.web.checks import need_diagram, need_effect, need_lot, need_some
from seenanddone.web.hiding import projected
from seenanddone.world.worlds import World


class View:
    """A diagram of which somebody sees a lot of the things."""

    def __init__(self, diagram, seen):
        self._projected = projected(diagram, seen)
        self._diagram = diagram
        self._seen = seen

    @property
    def diagram(self):
        """The whole diagram."""
        return self._diagram

    @property
    def seen(self):
        """The lot of the seen things."""
        return self._seen

    @property
    def hidden(self):
        """The lot of the things that are not seen."""
        return tuple([thing for thing in self._diagram.things if thing not in self._seen])

    @property
    def projected(self):
        """The projected diagram."""
        return self._projected

    def decide(self, question):
        """The pair of the verdict of a question and of a paper for it, for the projected diagram."""
        return decide(self._projected, question)

    def is_paper(self, question, verdict, value):
        """Whether the value is a paper for this verdict of a question, for the projected diagram."""
        return is_paper(self._projected, question, verdict, value)

    def narrowed(self, lot):
        """The view of somebody who sees a lot of these things alone."""
        need_some(lot, self._seen)
        return View(self._diagram, lot)

    def pooled(self, other):
        """The view of all things that one of two views of a diagram sees."""
        if not isinstance(other, View) or other.diagram != self._diagram:
            raise InvalidOperation("no view of an equal diagram")
        return View(self._diagram, lot_of(self._seen + other.seen))

    def __contains__(self, value):
        return value in self._seen

    def __len__(self):
        return len(self._seen)

    def __eq__(self, other):
        return isinstance(other, View) and self._diagram == other._diagram and self._seen == other._seen

    def __str__(self):
        return f"view of {len(self._seen)} of {len(self._diagram)} things"


def lifted(diagram, seen, world):
    """A world of the whole diagram that shows somebody who sees a lot just what a world of the projected one shows."""
    need_diagram(diagram)
    need_some(seen, diagram.things)
    if not isinstance(world, World) or world.diagram != projected(diagram, seen):
        raise InvalidWorld("no world of the projected diagram")
    lifting = Lifting(diagram, world)
    lifting.need_few()
    lifting.need_short()
    return lifting.world()


def hiding_lots(diagram, x, y, may):
    """The ascending tuple of the least lots, of things that may be hidden, that make an effect untold if hidden."""
    need_effect(diagram, x, y)
    need_lot(may, diagram.things)
    if any([thing in x or thing in y for thing in may]):
        raise InvalidLot("a thing of the effect may not be hidden")
    least = []
    for lot in lots_of(may):
        if not any([is_lot_of(one, lot) for one in least]):
            if not is_told(projected(diagram, without(diagram.things, lot)), x, y):
                least.append(lot)
    return tuple(sorted(least))


def is_hiding_lot(diagram, x, y, may, value):
    """Whether the value is one of these lots."""
    return value in hiding_lots(diagram, x, y, may)
