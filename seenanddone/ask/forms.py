"""The forms of questions, whatever diagram they are asked of."""
from seenanddone.base.helpers import is_ascending, lot_of
from seenanddone.base.numbers import is_lot, is_name
from seenanddone.part.parting import MAX_LOTS


def is_asked(value):
    """Whether the value is a question by its form."""
    if not isinstance(value, tuple) or len(value) < 2:
        return False
    if value[0] in ("free", "adjusts"):
        return len(value) == 4 and _are_apart(value[1:]) and len(value[1]) > 0 and len(value[2]) > 0
    if value[0] == "told":
        return len(value) == 3 and _are_apart(value[1:]) and len(value[2]) > 0
    if value[0] == "same":
        return len(value) == 2 and _are_pairs(value[1])
    if value[0] == "tells":
        return len(value) == 2 and _are_lots(value[1])
    return value[0] == "pays" and len(value) == 4 and are_unlike_names(value[1:])


def are_unlike_names(values):
    """Whether some values are different names."""
    return all([is_name(name) for name in values]) and len(set(values)) == len(values)


def _are_apart(lots):
    """Whether some values are lots no two of which meet."""
    if not all([is_lot(lot) for lot in lots]):
        return False
    names = [name for lot in lots for name in lot]
    return len(set(names)) == len(names)


def _are_pairs(value):
    """Whether the value is an ascending tuple of pairs of two different names."""
    if not isinstance(value, tuple):
        return False
    if not all([isinstance(pair, tuple) and len(pair) == 2 and are_unlike_names(pair) for pair in value]):
        return False
    return is_ascending(value)


def _are_lots(value):
    """Whether the value is a tuple of at most eight lots."""
    return isinstance(value, tuple) and len(value) <= MAX_LOTS and all([is_lot(lot) for lot in value])


def asked_names(question):
    """The lot of all names in a question."""
    if question[0] == "pays":
        return lot_of(question[1:])
    lots = question[1] if question[0] in ("same", "tells") else question[1:]
    return lot_of([name for lot in lots for name in lot])
