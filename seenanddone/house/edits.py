"""Edits of diagrams: their forms, the words that refuse them, and what they make."""
from seenanddone.ask.forms import are_unlike_names
from seenanddone.base.helpers import pair_of
from seenanddone.base.numbers import without
from seenanddone.web.diagrams import MAX_THINGS, Diagram, has_ring
from seenanddone.web.hiding import projected

EDIT_NAMES = {"arrow": 2, "bow": 2, "thing": 1, "no arrow": 2, "no bow": 2, "turn": 2, "drop": 1, "hide": 1}


def is_edit_form(value):
    """Whether the value is an edit by its form."""
    if not isinstance(value, tuple) or len(value) < 2 or not isinstance(value[0], str) or value[0] not in EDIT_NAMES:
        return False
    return len(value) == 1 + EDIT_NAMES[value[0]] and are_unlike_names(value[1:])


def _turned(arrows, arrow):
    """The arrows with one of them turned about."""
    return tuple([pair for pair in arrows if pair != arrow]) + (arrow[::-1],)


def refusal_of(diagram, edit):
    """The first word that refuses an edit of a diagram, or None."""
    word = edit[0]
    pair = edit[1:]
    if word == "thing":
        if pair[0] in diagram:
            return "taken"
        return "many" if len(diagram) == MAX_THINGS else None
    if not all([thing in diagram for thing in pair]):
        return "unknown"
    if word in ("drop", "hide"):
        return "last" if len(diagram) == 1 else None
    if word in ("bow", "no bow"):
        is_there = pair_of(pair[0], pair[1]) in diagram.bows
    else:
        is_there = pair in diagram.arrows
    if word in ("arrow", "bow") and is_there:
        return "taken"
    if word not in ("arrow", "bow") and not is_there:
        return "unknown"
    if word == "arrow":
        return "ring" if has_ring(diagram.things, diagram.arrows + (pair,)) else None
    if word == "turn":
        return "ring" if has_ring(diagram.things, _turned(diagram.arrows, pair)) else None
    return None


def changed(diagram, edit):
    """The diagram behind an edit that no word refuses."""
    word = edit[0]
    pair = edit[1:]
    things = diagram.things
    arrows = diagram.arrows
    bows = diagram.bows
    if word == "hide":
        return projected(diagram, without(things, pair))
    if word == "drop":
        return diagram.part(without(things, pair))
    if word == "thing":
        things = things + pair
    elif word == "arrow":
        arrows = arrows + (pair,)
    elif word == "no arrow":
        arrows = tuple([arrow for arrow in arrows if arrow != pair])
    elif word == "turn":
        arrows = _turned(arrows, pair)
    elif word == "bow":
        bows = bows + (pair_of(pair[0], pair[1]),)
    else:
        bows = tuple([bow for bow in bows if bow != pair_of(pair[0], pair[1])])
    return Diagram(tuple(sorted(things)), tuple(sorted(arrows)), tuple(sorted(bows)))
