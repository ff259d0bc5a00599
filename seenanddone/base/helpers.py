"""What several modules need: whole numbers, common bottoms, rows of values, and what can be reached."""
from math import gcd, lcm

# A number has at most 1000 digits if it holds this one fewer times than this one itself is.
_ROOT = (10 ** 50) ** 10


def is_whole(value):
    """Whether the value is an integer of at most 1000 digits."""
    return isinstance(value, int) and not isinstance(value, bool) and abs(value) // _ROOT < _ROOT


def is_whole_within(value, least, most):
    """Whether the value is an integer from the least to the most."""
    return is_whole(value) and least <= value <= most


def is_ascending(values):
    """Whether each of some values that can be compared is less than the next one."""
    return all([values[index] < values[index + 1] for index in range(len(values) - 1)])


def lot_of(names):
    """The lot of some names, of which some can stand twice."""
    return tuple(sorted(set(names)))


def pair_of(one, other):
    """The ascending pair of two different names."""
    return (one, other) if one < other else (other, one)


def lowest(top, bottom):
    """The fraction of two integers in lowest terms; the bottom is not 0."""
    shared = gcd(top, bottom) if bottom > 0 else -gcd(top, bottom)
    return (top // shared, bottom // shared)


def lcm_of(numbers):
    """The least common multiple of some integers of at least 1."""
    result = 1
    for number in numbers:
        result = lcm(result, number)
    return result


def sum_of(fractions):
    """The sum of some fractions."""
    # Two by two, so that few sums have long bottoms; lowest terms are looked for once, at the end.
    parts = [(0, 1)] + list(fractions)
    while len(parts) > 1:
        added = [_added(parts[index], parts[index + 1]) for index in range(0, len(parts) - 1, 2)]
        parts = added + parts[2 * len(added):]
    return lowest(parts[0][0], parts[0][1])


def _added(one, other):
    """A top and a bottom, perhaps not in lowest terms, of the sum of two fractions."""
    more = other[1] // gcd(one[1], other[1])
    bottom = one[1] * more
    return (one[0] * more + other[0] * (bottom // other[1]), bottom)


def common_bottom(fractions, most=None):
    """The least common multiple of the bottoms, or None if it is above the most or has more than 1000 digits."""
    bottom = 1
    for part in fractions:
        bottom = lcm(bottom, part[1])
        # The bound is looked at on each step, as many long bottoms would make an endless number.
        if not is_whole(bottom) or (most is not None and bottom > most):
            return None
    return bottom


def product_of(numbers):
    """The product of some integers."""
    result = 1
    for number in numbers:
        result = result * number
    return result


def pairs_of(values):
    """The list of all pairs of some values, the one that stands ahead first."""
    return [(values[index], other) for index in range(len(values)) for other in values[index + 1:]]


def parts_of(values, size):
    """The list of all tuples of so many of some values, as they stand."""
    if size == 0:
        return [()]
    found = []
    for index in range(len(values)):
        for rest in parts_of(values[index + 1:], size - 1):
            found.append((values[index],) + rest)
    return found


def places_in(whole, part):
    """The list of the places that the members of a part have in the whole."""
    return [whole.index(member) for member in part]


def picked(row, places):
    """The tuple of what stands at some places of a row."""
    return tuple([row[place] for place in places])


def rows_of(counts):
    """The list of all rows, in Python's order, of things with these numbers of values."""
    found = [()]
    for many in counts:
        found = [row + (value,) for row in found for value in range(many)]
    return found


def is_row(value, counts):
    """Whether the value is a row of things with these numbers of values."""
    if not isinstance(value, tuple) or len(value) != len(counts):
        return False
    return all([is_whole_within(part, 0, many - 1) for part, many in zip(value, counts)])


def reached(starts, nexts):
    """The lot of all names to which one or more steps lead from some names; nexts tells the steps of each."""
    found = {}
    waiting = [name for start in starts for name in nexts[start]]
    while waiting:
        name = waiting.pop()
        if name not in found:
            found[name] = True
            waiting.extend(nexts[name])
    return lot_of(found)
