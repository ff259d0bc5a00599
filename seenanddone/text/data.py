"""Data and their texts."""
from seenanddone.base.helpers import is_whole
from seenanddone.errors import ParseError
from seenanddone.text.signs import need_sign, stands_at

DEEPEST = 10

_DIGITS = "0123456789"
_MOST_DIGITS = 1000
_LONGEST_STRING = 40
_WORDS = {"N": "None", "T": "True", "F": "False"}


def _is_plain_sign(sign):
    """Whether a sign can stand in a string of data."""
    return " " <= sign <= "~" and sign not in ("'", '"', "\\")


def _is_plain_string(value):
    return isinstance(value, str) and len(value) <= _LONGEST_STRING and all([_is_plain_sign(sign) for sign in value])


def is_datum(value, deep):
    """Whether the value is data, nested at most so deep."""
    if value is None or isinstance(value, bool) or is_whole(value) or _is_plain_string(value):
        return True
    if isinstance(value, tuple):
        return deep > 0 and all([is_datum(part, deep - 1) for part in value])
    if not isinstance(value, dict) or deep == 0 or not _are_keys(list(value), deep - 1):
        return False
    return all([is_datum(part, deep - 1) for part in value.values()])


def _are_keys(keys, deep):
    """Whether some values are keys of one kind; those that are tuples are nested, too."""
    if all([_is_plain_string(key) for key in keys]):
        return True
    if deep == 0 or not all([isinstance(key, tuple) for key in keys]):
        return False
    parts = [part for key in keys for part in key]
    return all([_is_plain_string(part) for part in parts]) or all([is_whole(part) for part in parts])


def text_of(value):
    """The text of data."""
    if isinstance(value, str):
        return "'" + value + "'"
    if isinstance(value, tuple):
        inner = ", ".join([text_of(part) for part in value])
        return "(" + inner + ",)" if len(value) == 1 else "(" + inner + ")"
    if isinstance(value, dict):
        return "{" + ", ".join([text_of(key) + ": " + text_of(value[key]) for key in sorted(value)]) + "}"
    return f"{value}"


def data_at(text, start, deep, misplaced):
    """The data whose text begins at an index, nested at most so deep, and the index behind it.

    The indices of keys that do not follow those ahead of them are added to the misplaced ones.
    """
    if stands_at(text, start, "("):
        return _members_at(text, _inner_start(start, deep), "data", deep - 1, misplaced)
    if stands_at(text, start, "{"):
        return _dict_at(text, _inner_start(start, deep), deep - 1, misplaced)
    if stands_at(text, start, "'"):
        return _string_at(text, start)
    for sign in _WORDS:
        if stands_at(text, start, sign):
            return _word_from(text, start, _WORDS[sign])
    return _integer_at(text, start)


def _inner_start(start, deep):
    """The index behind a bracket; raise if it may not stand so deep."""
    if deep == 0:
        raise ParseError(start)
    return start + 1


def _word_from(text, start, word):
    """None, True or False, whose word begins at an index, and the index behind it."""
    end = start
    for sign in word:
        end = need_sign(text, end, sign)
    if word == "None":
        return (None, end)
    return (word == "True", end)


def _integer_at(text, start):
    """The integer that begins at an index, and the index behind it."""
    if stands_at(text, start, "0"):
        return (0, start + 1)
    first = start + 1 if stands_at(text, start, "-") else start
    end = need_sign(text, first, "123456789")
    while end < len(text) and text[end] in _DIGITS:
        if end == first + _MOST_DIGITS:
            raise ParseError(end)
        end += 1
    return (int(text[start:end]), end)


def _string_at(text, start):
    """The string that begins at an index with its quote, and the index behind it."""
    end = need_sign(text, start, "'")
    while end < len(text) and end <= start + _LONGEST_STRING and _is_plain_sign(text[end]):
        end += 1
    return (text[start + 1:end], need_sign(text, end, "'"))


def _members_at(text, start, kind, deep, misplaced):
    """The tuple of members of a kind of which the first one begins at an index, and the index behind it."""
    if stands_at(text, start, ")"):
        return ((), start + 1)
    value, end = _member_at(text, start, kind, deep, misplaced)
    parts = [value]
    end = need_sign(text, end, ",")
    if stands_at(text, end, ")"):
        return ((value,), end + 1)
    while True:
        value, end = _member_at(text, need_sign(text, end, " "), kind, deep, misplaced)
        parts.append(value)
        if stands_at(text, end, ")"):
            return (tuple(parts), end + 1)
        end = need_sign(text, end, ",")


def _member_at(text, start, kind, deep, misplaced):
    """The member of a kind that begins at an index, and the index behind it."""
    if kind == "data":
        return data_at(text, start, deep, misplaced)
    return _string_at(text, start) if kind == "strings" else _integer_at(text, start)


def _dict_at(text, start, deep, misplaced):
    """The dict whose first key begins at an index, and the index behind it."""
    found = {}
    keys = []
    end = start
    while not stands_at(text, end, "}"):
        if len(keys) > 0:
            end = need_sign(text, need_sign(text, end, ","), " ")
        spot = end
        key, end = _key_at(text, spot, deep)
        if len(keys) > 0 and not _does_follow(keys[-1], key):
            misplaced.append(spot)
        keys.append(key)
        end = need_sign(text, need_sign(text, end, ":"), " ")
        value, end = data_at(text, end, deep, misplaced)
        found[key] = value
    return (found, end + 1)


def _does_follow(last, key):
    """Whether a key is of the kind of the one ahead of it, and greater."""
    if isinstance(last, str) or isinstance(key, str):
        return isinstance(last, str) and isinstance(key, str) and last < key
    # Without members a key is of both kinds of tuples; but then it is the least one, and no other one is ahead of it.
    if len(last) > 0 and len(key) > 0 and isinstance(last[0], str) != isinstance(key[0], str):
        return False
    return last < key


def _key_at(text, start, deep):
    """The key of a dict that begins at an index, and the index behind it."""
    if not stands_at(text, start, "("):
        return _string_at(text, start)
    inner = _inner_start(start, deep)
    kind = "strings" if stands_at(text, inner, "'") else "integers"
    return _members_at(text, inner, kind, 0, [])
