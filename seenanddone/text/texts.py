"""Texts of diagrams, of questions, and of data."""
from seenanddone.ask.questions import is_asking
from seenanddone.errors import InvalidOperation, InvalidQuestion, ParseError, TooMany
from seenanddone.text.data import DEEPEST, data_at, is_datum, text_of
from seenanddone.text.signs import (
    arrows_at, lot_at, name_at, names_at, need_end, need_sign, sorted_ties, stands_at, tie_at, word_at)
from seenanddone.web.checks import need_diagram
from seenanddone.web.diagrams import Diagram

_LONGEST_TEXT = 50000

# What stands behind each word of a question: a lot, arrows, a name; for "tells" there are as many lots as one likes.
_PARTS = {
    "free": ("lot", "lot", "lot"), "adjusts": ("lot", "lot", "lot"), "told": ("lot", "lot"), "same": ("arrows",),
    "tells": (), "pays": ("name", "name", "name"),
}


def write_diagram(diagram):
    """The text of a diagram."""
    need_diagram(diagram)
    ties = [one + ">" + other for one, other in diagram.arrows] + [one + "-" + other for one, other in diagram.bows]
    things = " ".join(list(diagram.things))
    return things + ": " + ", ".join(ties) if ties else things


def read_diagram(text):
    """The diagram that a text tells."""
    _need_text(text)
    things, end = names_at(text, 0, " ")
    ties = []
    if stands_at(text, end, ":"):
        end = need_sign(text, end + 1, " ")
        tie, end = tie_at(text, end, ">-")
        ties.append(tie)
        while stands_at(text, end, ","):
            end = need_sign(text, end + 1, " ")
            tie, end = tie_at(text, end, ">-")
            ties.append(tie)
    need_end(text, end)
    arrows, bows = sorted_ties(ties)
    return Diagram(tuple(sorted(things)), arrows, bows)


def _need_text(text):
    if not isinstance(text, str):
        raise ParseError(None)


def _lot_text(lot):
    return "+".join(list(lot)) if lot else "-"


def _arrows_text(arrows):
    return ",".join([one + ">" + other for one, other in arrows]) if arrows else "-"


def write_question(question):
    """The text of a question."""
    if not is_asking(question):
        raise InvalidQuestion("no question by its form")
    word = question[0]
    if word == "same":
        return word + " " + _arrows_text(question[1])
    if word == "pays":
        return " ".join(list(question))
    lots = question[1] if word == "tells" else question[1:]
    return " ".join([word] + [_lot_text(lot) for lot in lots])


def _part_at(text, start, kind):
    """The part of a kind that begins at an index, and the index behind it."""
    if kind == "lot":
        return lot_at(text, start)
    return arrows_at(text, start) if kind == "arrows" else name_at(text, start)


def read_question(text):
    """The question that a text tells."""
    _need_text(text)
    word, end = word_at(text, list(_PARTS))
    parts = ()
    for kind in _PARTS[word]:
        part, end = _part_at(text, need_sign(text, end, " "), kind)
        parts = parts + (part,)
    if word == "tells":
        lots = []
        while stands_at(text, end, " "):
            lot, end = lot_at(text, end + 1)
            lots.append(lot)
        parts = (tuple(lots),)
    need_end(text, end)
    question = (word,) + parts
    if not is_asking(question):
        raise InvalidQuestion("no question has this text")
    return question


def is_data(value):
    """Whether the value is data."""
    return is_datum(value, DEEPEST)


def write_data(value):
    """The text of data."""
    if not is_data(value):
        raise InvalidOperation("no data")
    text = text_of(value)
    if len(text) > _LONGEST_TEXT:
        raise TooMany(_LONGEST_TEXT)
    return text


def read_data(text):
    """The data that a text tells."""
    if not isinstance(text, str) or len(text) > _LONGEST_TEXT:
        raise ParseError(None)
    misplaced = []
    value, end = data_at(text, 0, DEEPEST, misplaced)
    need_end(text, end)
    if misplaced:
        raise ParseError(misplaced[0])
    return value
