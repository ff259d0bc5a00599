"""Questions about diagrams, their verdicts, and papers for these, as data."""
from seenanddone.adjust.adjusting import adjust_bar, is_adjust_bar, is_adjusting, led, trimmed
from seenanddone.adjust.erring import erring_world, is_erring
from seenanddone.ask.forms import asked_names, is_asked
from seenanddone.bars.barred import bar_cut, is_bar_cut, is_open_trail, open_trail
from seenanddone.bars.felt import felt_world, is_felt
from seenanddone.base.helpers import is_whole_within
from seenanddone.deed.steps import is_steps, steps_or_knot
from seenanddone.deed.twins import are_twins, is_knot, twins_of
from seenanddone.errors import InvalidOperation, InvalidQuestion
from seenanddone.look.looks import does_pay, is_look_bar, is_look_trail, is_paying, look_bar, look_trail, paying_world
from seenanddone.part.parting import does_cut, is_unparted, unparted
from seenanddone.same.pictures import open_ties_of, picture_of
from seenanddone.same.sayings import is_turnings, parting_saying, turnings
from seenanddone.web.checks import need_diagram
from seenanddone.web.diagrams import Diagram, are_arrows, has_ring
from seenanddone.world.fits import does_fit
from seenanddone.world.worlds import World


def is_asking(value):
    """Whether the value is a question by its form, whatever diagram it is asked of."""
    return is_asked(value)


def asked_things(question):
    """The lot of all names in a question."""
    if not is_asked(question):
        raise InvalidQuestion("no question by its form")
    return asked_names(question)


def is_question(diagram, value):
    """Whether the value is a question of the diagram."""
    need_diagram(diagram)
    if not is_asked(value) or not all([thing in diagram for thing in asked_names(value)]):
        return False
    if value[0] == "same":
        return len(diagram.bows) == 0 and not has_ring(diagram.things, value[1])
    if value[0] == "tells":
        return len(diagram.bows) == 0
    if value[0] == "pays":
        return value[3] not in diagram.behind((value[1],)) and value[3] not in diagram.parents(value[1])
    return True


def _need_question(diagram, question):
    if not is_question(diagram, question):
        raise InvalidQuestion("no question of the diagram")


def decide(diagram, question):
    """The pair of the verdict of a question and of a paper for it."""
    _need_question(diagram, question)
    word = question[0]
    parts = question[1:]
    if word == "free":
        return _first_of(bar_cut(diagram, *parts), open_trail(diagram, *parts))
    if word == "adjusts":
        return _decide_adjusts(diagram, *parts)
    if word == "told":
        steps, knot = steps_or_knot(diagram, *parts)
        return _first_of(steps, knot)
    if word == "same":
        other = Diagram(diagram.things, question[1])
        row = turnings(diagram, other)
        return (True, row) if row is not None else (False, _parting_paper(diagram, other))
    if word == "tells":
        return _decide_tells(diagram, question[1])
    return _first_of(look_trail(diagram, *parts), look_bar(diagram, *parts))


def _first_of(paper, contrary):
    """The verdict with its paper, of which there is just one."""
    return (True, paper) if paper is not None else (False, contrary)


def _decide_adjusts(diagram, x, y, z):
    if not is_adjusting(diagram, x, y, z):
        return (False, adjust_bar(diagram, x, y, z))
    return (True, bar_cut(trimmed(diagram, x, y), x, y, z))


def _parting_paper(one, other):
    """A saying that holds in one of two diagrams, its bar cut there, and an open trail in the other one."""
    saying = parting_saying(one, other)
    cut = bar_cut(one, *saying)
    if cut is not None:
        return (saying, cut, open_trail(other, *saying))
    return (saying, bar_cut(other, *saying), open_trail(one, *saying))


def _decide_tells(diagram, lots):
    cuts = [
        (tie, [index for index, lot in enumerate(lots) if does_cut(lot, tie)])
        for tie in open_ties_of(diagram)
    ]
    if all([len(indices) > 0 for _, indices in cuts]):
        return (True, tuple([(tie, indices[0]) for tie, indices in cuts]))
    tie, one, other = unparted(picture_of(diagram), lots)
    return (False, (tie, one.arrows, other.arrows))


def is_paper(diagram, question, verdict, value):
    """Whether the value is a paper for this verdict of a question."""
    _need_question(diagram, question)
    if not isinstance(verdict, bool):
        raise InvalidOperation("the verdict is no boolean")
    if verdict:
        return _is_yes_paper(diagram, question, value)
    return _is_no_paper(diagram, question, value)


def _is_yes_paper(diagram, question, value):
    """Whether the value is a paper for the verdict True."""
    word = question[0]
    parts = question[1:]
    if word == "free":
        return is_bar_cut(diagram, *parts, value)
    if word == "adjusts":
        return _is_adjusting_cut(diagram, *parts, value)
    if word == "told":
        return is_steps(diagram, *parts, value)
    if word == "same":
        return is_turnings(diagram, Diagram(diagram.things, question[1]), value)
    if word == "tells":
        return _are_cuts(open_ties_of(diagram), question[1], value)
    return is_look_trail(diagram, *parts, value)


def _is_no_paper(diagram, question, value):
    """Whether the value is a paper for the verdict False."""
    word = question[0]
    parts = question[1:]
    if word == "free":
        return is_open_trail(diagram, *parts, value)
    if word == "adjusts":
        return is_adjust_bar(diagram, *parts, value)
    if word == "told":
        return is_knot(diagram, *parts, value)
    if word == "same":
        return _is_parting_paper(diagram, Diagram(diagram.things, question[1]), value)
    if word == "tells":
        return _is_unparted_paper(diagram, question[1], value)
    return is_look_bar(diagram, *parts, value)


def _is_adjusting_cut(diagram, x, y, z, value):
    """Whether the value shows that z adjusts: a bar cut in the trimmed diagram, where no thing of z is led."""
    off = led(diagram, x, y)
    return not any([thing in off for thing in z]) and is_bar_cut(trimmed(diagram, x, y), x, y, z, value)


def _is_parting_paper(one, other, value):
    """Whether the value is a saying with a bar cut in one of two diagrams, and with an open trail in the other one."""
    if not isinstance(value, tuple) or len(value) != 3:
        return False
    saying, cut, trail = value
    if not isinstance(saying, tuple) or not is_question(one, ("free",) + saying):
        return False
    return any([
        is_bar_cut(barring, *saying, cut) and is_open_trail(letting, *saying, trail)
        for barring, letting in ((one, other), (other, one))
    ])


def _are_cuts(ties, lots, value):
    """Whether the value is the pairs of all ties, each with the index of a lot that cuts it."""
    if not isinstance(value, tuple) or len(value) != len(ties):
        return False
    return all([
        isinstance(pair, tuple) and len(pair) == 2 and pair[0] == tie
        and is_whole_within(pair[1], 0, len(lots) - 1) and does_cut(lots[pair[1]], tie)
        for tie, pair in zip(ties, value)
    ])


def _is_unparted_paper(diagram, lots, value):
    """Whether the value is an open tie, and the arrows of two members that turn it both ways and stay alike."""
    if not isinstance(value, tuple) or len(value) != 3:
        return False
    things = diagram.things
    if not all([are_arrows(arrows, things) and not has_ring(things, arrows) for arrows in value[1:]]):
        return False
    members = tuple([Diagram(things, arrows) for arrows in value[1:]])
    return is_unparted(picture_of(diagram), lots, value[:1] + members)


def show_worlds(diagram, question):
    """A tuple of worlds that shows a verdict which does not stand for all worlds, or ()."""
    _need_question(diagram, question)
    word = question[0]
    parts = question[1:]
    if word == "told":
        twins = twins_of(diagram, *parts)
        return () if twins is None else twins
    if word == "free":
        shown = felt_world(diagram, *parts)
    elif word == "adjusts":
        shown = erring_world(diagram, *parts)
    elif word == "same":
        shown = _unlike_world(diagram, Diagram(diagram.things, question[1]))
    else:
        shown = paying_world(diagram, *parts) if word == "pays" else None
    return () if shown is None else (shown,)


def _unlike_world(one, other):
    """A full world of one of two diagrams in which a saying of the other one does not hold, or None."""
    saying = parting_saying(one, other)
    if saying is None:
        return None
    felt = felt_world(one, *saying)
    return felt if felt is not None else felt_world(other, *saying)


def is_shown(diagram, question, value):
    """Whether the value is a tuple of worlds that shows a verdict which does not stand for all worlds."""
    _need_question(diagram, question)
    word = question[0]
    parts = question[1:]
    if word == "told" and are_twins(diagram, *parts, value):
        return True
    if not _needs_worlds(diagram, question):
        return isinstance(value, tuple) and len(value) == 0
    if word == "told" or not isinstance(value, tuple) or len(value) != 1:
        return False
    shown = value[0]
    if word == "free":
        return is_felt(diagram, *parts, shown)
    if word == "adjusts":
        return is_erring(diagram, *parts, shown)
    if word == "same":
        return _is_unlike_world(diagram, Diagram(diagram.things, question[1]), shown)
    return is_paying(diagram, *parts, shown)


def _needs_worlds(diagram, question):
    """Whether the verdict of a question is shown by worlds."""
    if question[0] == "pays":
        parts = question[1:]
        return does_pay(diagram, *parts)
    return question[0] != "tells" and not decide(diagram, question)[0]


def _is_unlike_world(one, other, value):
    """Whether the value is a full world of one of two diagrams in which a saying of the other one does not hold."""
    if not isinstance(value, World) or not value.full:
        return False
    if value.diagram == one:
        return not does_fit(value.seen, other)
    return value.diagram == other and not does_fit(value.seen, one)
