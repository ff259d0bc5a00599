"""Fractions, names and lots."""
from math import gcd

from seenanddone.base.helpers import is_ascending, is_whole, is_whole_within, lot_of, lowest, parts_of, sum_of
from seenanddone.errors import InvalidFraction, InvalidLot, InvalidNumber, InvalidOperation, ParseError, Refused

ZERO = (0, 1)
ONE = (1, 1)
HALF = (1, 2)

_LETTERS = "abcdefghijklmnopqrstuvwxyz"
_DIGITS = "0123456789"
_SIGNS = "abcdefghijklmnopqrstuvwxyz0123456789"
_LONGEST_NAME = 8
_MOST_DIGITS = 1000
_MOST_PARTS = 256
_MOST_COUNT = 64
_MOST_NAMES = 10


def is_fraction(value):
    """Whether the value is a pair of a top and a bottom of at least 1, in lowest terms."""
    if not isinstance(value, tuple) or len(value) != 2:
        return False
    top, bottom = value
    return is_whole(top) and is_whole(bottom) and bottom >= 1 and gcd(top, bottom) == 1


def is_name(value):
    """Whether the value is a name."""
    if not isinstance(value, str) or not 1 <= len(value) <= _LONGEST_NAME:
        return False
    return value[0] in _LETTERS and all([sign in _SIGNS for sign in value])


def is_lot(value):
    """Whether the value is an ascending tuple of names."""
    return isinstance(value, tuple) and all([is_name(name) for name in value]) and is_ascending(value)


def is_lot_of(value, names):
    """Whether the value is a lot of some of the names."""
    return is_lot(value) and all([name in names for name in value])


def are_shares(value):
    """Whether the value is a tuple of one or more fractions of at least 0 with the sum 1."""
    if not isinstance(value, tuple) or not all([is_fraction(part) and part[0] >= 0 for part in value]):
        return False
    return sum_of(value) == ONE


def fraction(top, bottom=1):
    """The fraction of two integers in lowest terms."""
    if not is_whole(top):
        raise InvalidNumber(top)
    if not is_whole(bottom) or bottom == 0:
        raise InvalidNumber(bottom)
    return lowest(top, bottom)


def _need_fraction(value):
    if not is_fraction(value):
        raise InvalidFraction("no fraction in lowest terms")


def _need_fractions(one, other):
    _need_fraction(one)
    _need_fraction(other)


def plus(one, other):
    """The sum of two fractions."""
    _need_fractions(one, other)
    return sum_of((one, other))


def minus(one, other):
    """The first fraction less the second one."""
    _need_fractions(one, other)
    return sum_of((one, (-other[0], other[1])))


def times(one, other):
    """The product of two fractions."""
    _need_fractions(one, other)
    return lowest(one[0] * other[0], one[1] * other[1])


def over(one, other):
    """The first fraction divided by the second one."""
    _need_fractions(one, other)
    if other[0] == 0:
        raise Refused(("zero",))
    return lowest(one[0] * other[1], one[1] * other[0])


def is_below(one, other):
    """Whether the first fraction is less than the second one."""
    _need_fractions(one, other)
    return one[0] * other[1] < other[0] * one[1]


def total(fractions):
    """The sum of a tuple of at most 256 fractions."""
    if not isinstance(fractions, tuple) or len(fractions) > _MOST_PARTS:
        raise InvalidOperation("no tuple of at most 256 fractions")
    if not all([is_fraction(part) for part in fractions]):
        raise InvalidOperation("the tuple has more than fractions")
    return sum_of(fractions)


def power(base, count):
    """The product of so many times the fraction, at most 64 times."""
    _need_fraction(base)
    if not is_whole_within(count, 0, _MOST_COUNT):
        raise InvalidNumber(count)
    top = 1
    bottom = 1
    for _ in range(count):
        top = top * base[0]
        bottom = bottom * base[1]
    return (top, bottom)


def _need_lots(one, other):
    if not is_lot(one) or not is_lot(other):
        raise InvalidLot("no ascending tuple of names")


def union(one, other):
    """The lot of all names in one lot or in both."""
    _need_lots(one, other)
    return lot_of(one + other)


def common(one, other):
    """The lot of all names in both lots."""
    _need_lots(one, other)
    return tuple([name for name in one if name in other])


def without(one, other):
    """The lot of all names in the first lot alone."""
    _need_lots(one, other)
    return tuple([name for name in one if name not in other])


def lots_of(lot, most=None):
    """All lots within a lot of at most ten names, the shorter ones first; those of at most so many names."""
    if not is_lot(lot) or len(lot) > _MOST_NAMES:
        raise InvalidLot("no lot of at most ten names")
    if most is not None and (not is_whole(most) or most < 0):
        raise InvalidNumber(most)
    longest = len(lot) if most is None else min(len(lot), most)
    for size in range(longest + 1):
        for part in parts_of(lot, size):
            yield part


def fraction_text(value):
    """The text of a fraction, without a bottom of 1."""
    _need_fraction(value)
    top, bottom = value
    return f"{top}" if bottom == 1 else f"{top}/{bottom}"


def read_fraction(text):
    """The fraction that a text tells, in lowest terms."""
    if not isinstance(text, str):
        raise ParseError(None)
    is_negative = text.startswith("-")
    start = 1 if is_negative else 0
    slash = _number_end(text, start, not is_negative)
    if slash == len(text):
        return (int(text), 1)
    if text[slash] != "/":
        raise ParseError(slash)
    end = _number_end(text, slash + 1, False)
    if end < len(text):
        raise ParseError(end)
    return lowest(int(text[:slash]), int(text[slash + 1:]))


def _number_end(text, start, may_be_zero):
    """The index behind the number that begins at the start."""
    if may_be_zero and text[start:start + 1] == "0":
        return start + 1
    end = start
    while end < len(text) and text[end] in _DIGITS:
        if text[start] == "0" or end == start + _MOST_DIGITS:
            raise ParseError(end)
        end += 1
    if end == start:
        raise ParseError(start)
    return end
