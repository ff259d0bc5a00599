"""Logs: the text of a house, with a line for each commit."""
from seenanddone.errors import ParseError, Refused, StudyError, TooMany, UnknownName
from seenanddone.house.hands import House, need_house

_DIGITS = "0123456789"
_MOST_DIGITS = 3
_DEEPEST = 8


def write_log(house):
    """The log of a house."""
    need_house(house)
    return "".join([_text_of(commit) + "\n" for commit in house.commits])


def _text_of(value):
    """The text of an integer, a string, or a tuple of such."""
    if isinstance(value, tuple):
        return "(" + ", ".join([_text_of(part) for part in value]) + ")"
    if isinstance(value, str):
        return '"' + value + '"'
    return f"{value}"


def read_log(text):
    """The house that a log tells."""
    if not isinstance(text, str):
        raise ParseError(None)
    house = House()
    for index, line in enumerate(text.split("\n")[:-1]):
        commit = _commit_of(line)
        if commit is None or commit[0] != index + 1 or not _is_committed(house, commit):
            raise ParseError(index)
    return house


def _commit_of(line):
    """The triple that a line is the text of, or None."""
    found = _read_value(line, 0, _DEEPEST)
    if found is None or found[1] != len(line) or not isinstance(found[0], tuple) or len(found[0]) != 3:
        return None
    return found[0]


def _is_committed(house, commit):
    """Whether a commit can be put behind the others; if so, it is."""
    try:
        house.commit_regardless(commit[1], commit[2])
    except (StudyError, UnknownName, TooMany, Refused):
        return False
    return True


def _read_value(line, start, deep):
    """The pair of the value whose text begins at an index, and of the index behind it; None if there is none."""
    sign = line[start:start + 1]
    if sign == '"':
        end = line.find('"', start + 1)
        return None if end < 0 else (line[start + 1:end], end + 1)
    if sign == "(":
        return _read_tuple(line, start + 1, deep - 1) if deep > 0 else None
    end = start
    while end < len(line) and line[end] in _DIGITS:
        end += 1
    # A number has no zeros ahead, and none is longer than that of the last commit.
    if not 1 <= end - start <= _MOST_DIGITS or (sign == "0" and end > start + 1):
        return None
    return (int(line[start:end]), end)


def _read_tuple(line, start, deep):
    """The pair of the tuple whose members begin at an index, and of the index behind it; None if there is none."""
    if line.startswith(")", start):
        return ((), start + 1)
    parts = []
    end = start
    while True:
        found = _read_value(line, end, deep)
        if found is None:
            return None
        parts.append(found[0])
        end = found[1]
        if line.startswith(")", end):
            return (tuple(parts), end + 1)
        if not line.startswith(", ", end):
            return None
        end += 2
