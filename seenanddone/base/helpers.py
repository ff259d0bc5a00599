"""What several modules need: whole numbers, common bottoms, rows of values, and what can be reached."""
from math import gcd, lcm

# A number has at most 1000 digits if it holds this one fewer times than this one itself is.
_ROOT = (10 ** 50) ** 10


def is_whole(value):
    """Whether the value is an integer of at most 1000 digits."""
    return isinstance(value, int) and not isinstance(value, bool) and abs(value) // _ROOT < _ROOT


def is_whole_within(value, least, most):
    """Whether the value is an integer from the least to the most."""
    return is_whole(value) and least <= value <= most


def is_ascending(values):
    """Whether each of some values that can be compared is less than the next one."""
    return all([values[index] < values[index + 1] for index in range(len(values) - 1)])


def lot_of(names):
    """The lot of some names, of which some can stand twice."""
    return tuple(sorted(set(names)))


def pair_of(one, other):
    """The ascending pair of two different names."""
    return (one, other) if one < other else (other, one)


def lowest(top, bottom):
    """The fraction of two integers in lowest terms; the bottom is not 0."""
    shared = gcd(top, bottom) if bottom > 0 else -gcd(top, bottom)
    return (top // shared, bottom // shared)


def common_bottom(fractions, most=None):
    """The least common multiple of the bottoms, or None if it is above the most or has more than 1000 digits."""
    bottom = 1
    for part in fractions:
        bottom = lcm(bottom, part[1])
        # The bound is looked at on each step, as many long bottoms would make an endless number.
        if not is_whole(bottom) or (most is not None and bottom > most):
            return None
    return bottom


def product_of(numbers):
    """The product of some integers."""
    result = 1
    for number in numbers:
        result = result * number
    return result


def rows_of(counts):
    """The list of all rows, in Python's order, of things with these numbers of values."""
    found = [()]
    for many in counts:
        found = [row + (value,) for row in found for value in range(many)]
    return found


def is_row(value, counts):
    """Whether the value is a row of things with these numbers of values."""
    if not isinstance(value, tuple) or len(value) != len(counts):
        return False
    return all([is_whole_within(part, 0, many - 1) for part, many in zip(value, counts)])


def reached(starts, nexts):
    """The lot of all names to which one or more steps lead from some names; nexts tells the steps of each."""
    found = {}
    waiting = [name for start in starts for name in nexts[start]]
    while waiting:
        name = waiting.pop()
        if name not in found:
            found[name] = True
            waiting.extend(nexts[name])
    return lot_of(found)
