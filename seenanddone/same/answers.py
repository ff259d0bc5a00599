"""From answers to all sayings about some things to the picture of the diagrams that have them, or to a bar."""
from seenanddone.base.helpers import pair_of, pairs_of
from seenanddone.base.numbers import is_lot
from seenanddone.errors import InvalidLot, InvalidOperation, UnknownName
from seenanddone.same.pictures import picture_of
from seenanddone.same.rules import (
    all_turned, arrows_of_row, arrows_of_rows, corners_of, rows_by_rules, split_ties, tied_by, way_between)
from seenanddone.same.sayings import answers_of, single_sayings
from seenanddone.ties.webs import Web, is_ring_without_chord, rings_without_chord
from seenanddone.web.diagrams import MAX_THINGS, Diagram, are_arrows, has_ring


def _need_things(things):
    if not is_lot(things) or not 1 <= len(things) <= MAX_THINGS:
        raise InvalidLot("no lot of one to six names")


def is_answers(things, value):
    """Whether the value is answers about some things."""
    _need_things(things)
    sayings = single_sayings(things)
    if not isinstance(value, dict) or len(value) != len(sayings):
        return False
    return all([saying in value and isinstance(value[saying], bool) for saying in sayings])


def _need_answers(things, answers):
    if not is_answers(things, answers):
        raise InvalidOperation("no answers about the things")


def _partings(things, answers):
    """The dict from all pairs of things to the lists of the lots that part them."""
    partings = {pair: [] for pair in pairs_of(things)}
    for a, b, z in answers:
        if answers[(a, b, z)]:
            partings[(a, b)].append(z)
    return partings


def are_tied(things, answers, a, b):
    """Whether no lot parts two things."""
    _need_answers(things, answers)
    if a not in things:
        raise UnknownName(a)
    if b not in things or b == a:
        raise UnknownName(b)
    return len(_partings(things, answers)[pair_of(a, b)]) == 0


def _shape_of(things, answers):
    """The triple of what is tied to each thing, of the corners that meet, and of those that pass."""
    partings = _partings(things, answers)
    tied = tied_by(things, [pair for pair in partings if len(partings[pair]) == 0])
    meets = {}
    passes = {}
    for a, b, c in corners_of(tied):
        lots = partings[pair_of(a, c)]
        if any([b not in lot for lot in lots]):
            meets[(a, b, c)] = True
        if any([b in lot for lot in lots]):
            passes[(a, b, c)] = True
    return (tied, meets, passes)


def _web_of(shape):
    """The web of the ties."""
    tied = shape[0]
    things = tuple(tied)
    return Web(things, tuple([pair for pair in pairs_of(things) if pair[1] in tied[pair[0]]]))


def _told_by(shape, value):
    """The list of the arrows that rows of rules tell, or None if the value is no rows of rules."""
    if not isinstance(value, tuple):
        return None
    told = []
    for row in value:
        if not _is_rule_row(shape, told, row):
            return None
        told.extend(arrows_of_row(row))
    return told


def _is_rule_row(shape, told, row):
    """Whether a value is a row of rules behind rows that have told some arrows."""
    tied, meets, passes = shape
    if not isinstance(row, tuple) or len(row) < 4 or not all([thing in tuple(tied) for thing in row[1:]]):
        return False
    a, b, c = row[1:4]
    if len(row) == 5:
        d = row[4]
        return (row[0] == "three" and c < d and (c, b) in told and (d, b) in told
                and a in tied[b] and (c, a, d) in passes)
    if len(row) > 5:
        return False
    if row[0] == "meet":
        return a < c and (a, b, c) in meets
    if row[0] == "one":
        return (a, b) in told and (a, b, c) in passes
    return row[0] == "two" and (a, b) in told and (b, c) in told and c in tied[a]


def arrows_told(things, answers, value):
    """The ascending tuple of the arrows that rows of rules tell."""
    _need_answers(things, answers)
    told = _told_by(_shape_of(things, answers), value)
    if told is None:
        raise InvalidOperation("no rows of rules")
    return tuple(sorted(set(told)))


def picture_of_answers(things, answers):
    """The picture whose diagrams have just these answers, or None."""
    _need_answers(things, answers)
    bar, diagram = _bar_or_diagram(things, answers)
    return picture_of(diagram) if bar is None else None


def bar_of_answers(things, answers):
    """A bar that shows that no diagram has these answers, or None."""
    _need_answers(things, answers)
    return _bar_or_diagram(things, answers)[0]


def _bar_or_diagram(things, answers):
    """The pair of a bar and None, or of None and a diagram with just these answers."""
    shape = _shape_of(things, answers)
    bar = _bar_by_rules(shape) or _chord_bar(shape)
    if bar is not None:
        return (bar, None)
    arrows, open_ties = split_ties(things, _web_of(shape).ties, shape[1])
    diagram = Diagram(things, all_turned(things, arrows, open_ties))
    given = answers_of(diagram)
    for saying in given:
        if given[saying] != answers[saying]:
            return (("answer", diagram.arrows, saying), None)
    return (None, diagram)


def _bar_by_rules(shape):
    """A bar of one of the first four kinds, or None.

    Of the kind "new" there is none without one of the kind "both", as the rule "one" tells the arrow back.
    """
    tied, meets, passes = shape
    for corner in meets:
        if corner in passes:
            return ("split", corner)
    rows = tuple(rows_by_rules(tied, meets, passes))
    told = arrows_of_rows(rows)
    for a, b in told:
        if (b, a) in told:
            return ("both", rows, (a, b))
    for a, b in told:
        way = way_between(told, b, a)
        if way is not None:
            return ("ring", rows, way)
    return None


def _chord_bar(shape):
    """A bar of the fifth kind, or None."""
    for ring in rings_without_chord(_web_of(shape)):
        if _do_all_pass(shape[2], ring):
            return ("chord", ring)
    return None


def _do_all_pass(passes, ring):
    """Whether each thing of a ring passes between its two neighbours."""
    return all([
        (ring[index - 2], ring[index - 1], ring[index]) in passes
        for index in range(len(ring))
    ])


def is_bar_of_answers(things, answers, value):
    """Whether the value is a bar of answers."""
    _need_answers(things, answers)
    shape = _shape_of(things, answers)
    if not isinstance(value, tuple) or not 2 <= len(value) <= 3:
        return False
    if len(value) == 2:
        return _is_short_bar(shape, value)
    if value[0] == "answer":
        return _is_answer_bar(things, answers, shape, value)
    told = _told_by(shape, value[1])
    if told is None or not isinstance(value[2], tuple):
        return False
    end = value[2]
    if value[0] == "both":
        return end in told and (end[1], end[0]) in told
    if value[0] == "ring":
        return (len(end) > 2 and all([(end[index - 1], end[index]) in told for index in range(len(end))])
                and len(set(end)) == len(end))
    return (value[0] == "new" and end in list(shape[2])
            and (end[0], end[1]) in told and (end[2], end[1]) in told)


def _is_short_bar(shape, value):
    """Whether a pair is a bar of the first or the fifth kind."""
    word, end = value
    if word == "split":
        return end in list(shape[1]) and end in list(shape[2])
    if word != "chord" or not is_ring_without_chord(_web_of(shape), end):
        return False
    return _do_all_pass(shape[2], end)


def _is_answer_bar(things, answers, shape, value):
    """Whether a triple is a bar of the last kind."""
    arrows, saying = value[1:]
    if not are_arrows(arrows, things) or has_ring(things, arrows) or saying not in list(answers):
        return False
    tied, meets, _ = shape
    if tied_by(things, arrows) != tied:
        return False
    for a, b, c in corners_of(tied):
        if ((a, b) in arrows and (c, b) in arrows) != ((a, b, c) in meets):
            return False
    return answers_of(Diagram(things, arrows))[saying] != answers[saying]
