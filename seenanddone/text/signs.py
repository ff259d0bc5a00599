"""Reading texts sign by sign: what a reader returns, and the index behind it."""
from seenanddone.base.helpers import pair_of
from seenanddone.errors import ParseError

_LETTERS = "abcdefghijklmnopqrstuvwxyz"
_SIGNS = "abcdefghijklmnopqrstuvwxyz0123456789"
_LONGEST_NAME = 8


def need_sign(text, start, signs):
    """Raise unless one of some signs stands at an index; return the index behind it."""
    if start >= len(text) or text[start] not in signs:
        raise ParseError(start)
    return start + 1


def need_end(text, start):
    """Raise unless a text ends at an index."""
    if start < len(text):
        raise ParseError(start)


def stands_at(text, start, sign):
    """Whether a sign stands at an index."""
    return text[start:start + 1] == sign


def name_at(text, start):
    """The name that begins at an index, and the index behind it."""
    end = need_sign(text, start, _LETTERS)
    while end < len(text) and end < start + _LONGEST_NAME and text[end] in _SIGNS:
        end += 1
    return (text[start:end], end)


def names_at(text, start, between):
    """The list of names with a sign between them that begin at an index, and the index behind them."""
    name, end = name_at(text, start)
    names = [name]
    while stands_at(text, end, between):
        name, end = name_at(text, end + 1)
        names.append(name)
    return (names, end)


def lot_at(text, start):
    """The names of a lot whose text begins at an index, as they are sorted, and the index behind them."""
    if stands_at(text, start, "-"):
        return ((), start + 1)
    names, end = names_at(text, start, "+")
    return (tuple(sorted(names)), end)


def tie_at(text, start, signs):
    """The triple of a name, one of some signs, and a name that begins at an index, and the index behind it."""
    one, spot = name_at(text, start)
    end = need_sign(text, spot, signs)
    other, end = name_at(text, end)
    return ((one, text[spot], other), end)


def arrows_at(text, start):
    """The arrows, with commas between them, that begin at an index, as they are sorted, and the index behind them."""
    if stands_at(text, start, "-"):
        return ((), start + 1)
    tie, end = tie_at(text, start, ">")
    ties = [tie]
    while stands_at(text, end, ","):
        tie, end = tie_at(text, end + 1, ">")
        ties.append(tie)
    return (tuple(sorted([(one, other) for one, _, other in ties])), end)


def sorted_ties(ties):
    """The pair of the arrows and of the bows of some ties, as they are sorted."""
    arrows = [(one, other) for one, sign, other in ties if sign == ">"]
    bows = [pair_of(one, other) for one, sign, other in ties if sign == "-"]
    return (tuple(sorted(arrows)), tuple(sorted(bows)))


def word_at(text, words):
    """The one of some words with which a text begins, up to a blank or the end, and the index behind it."""
    left = list(words)
    end = 0
    while end < len(text) and text[end] != " ":
        left = [word for word in left if stands_at(word, end, text[end])]
        if len(left) == 0:
            raise ParseError(end)
        end += 1
    if text[:end] not in left:
        raise ParseError(end)
    return (text[:end], end)
