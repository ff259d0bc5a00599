"""What the texts that a shell is told tell: a word, and its parts."""
from seenanddone.base.numbers import is_name
from seenanddone.errors import ParseError
from seenanddone.house.edits import EDIT_NAMES
from seenanddone.text.texts import read_diagram, read_question

# What stands behind each word: S a name, L a lot, N a number, E an edit, D a diagram, Q a question.
_PARTS = {
    "as": "S", "begin": "SD", "edit": "SE", "pin": "SQ", "ask": "SQ", "why": "SQ", "see": "SLQ", "words": "S",
    "commit": "SN", "back": "", "forward": "", "drop": "",
}
_DIGITS = "0123456789"
_LONGEST_NUMBER = 3


def pieces_of(text):
    """The list of the pairs of the index and the piece of all pieces of a text."""
    pieces = []
    start = 0
    for word in text.split(" "):
        if word != "":
            pieces.append((start, word))
        start = start + len(word) + 1
    return pieces


def command_of(text, pieces):
    """The list of the word and the parts that a text with one or more pieces tells."""
    start, word = pieces[0]
    if word not in _PARTS:
        raise ParseError(start)
    command = [word]
    used = 1
    # A commit can stand alone.
    kinds = "" if word == "commit" and len(pieces) == 1 else _PARTS[word]
    for kind in kinds:
        if used == len(pieces):
            raise ParseError(len(text))
        if kind == "E":
            edit, used = _edit_at(text, pieces, used)
            command.append(edit)
        elif kind in ("D", "Q"):
            command.append(_read_rest(text, pieces[used][0], kind))
            used = len(pieces)
        else:
            command.append(_part_of(pieces[used], kind))
            used += 1
    if used < len(pieces):
        raise ParseError(pieces[used][0])
    return command


def _part_of(piece, kind):
    """The name, the lot or the number that a piece tells."""
    start, word = piece
    if kind == "S" and is_name(word):
        return word
    if kind == "N" and _is_number(word):
        return int(word)
    if kind == "L" and word == "-":
        return ()
    names = word.split("+")
    if kind == "L" and all([is_name(name) for name in names]):
        return tuple(sorted(names))
    raise ParseError(start)


def _is_number(word):
    """Whether a piece is a number of one to three digits without zeros ahead."""
    if len(word) > _LONGEST_NUMBER or not all([sign in _DIGITS for sign in word]):
        return False
    return word == "0" or word[0] != "0"


def _edit_at(text, pieces, first):
    """The edit that begins at a piece, and the index of the piece behind it."""
    start, word = pieces[first]
    used = first + 1
    if word == "no":
        if used == len(pieces):
            raise ParseError(len(text))
        start, second = pieces[used]
        word = "no " + second
        used += 1
    if word not in EDIT_NAMES:
        raise ParseError(start)
    edit = (word,)
    for _ in range(EDIT_NAMES[word]):
        if used == len(pieces):
            raise ParseError(len(text))
        edit = edit + (_part_of(pieces[used], "S"),)
        used += 1
    return (edit, used)


def _read_rest(text, start, kind):
    """The diagram or the question that the rest of a text tells."""
    try:
        return read_diagram(text[start:]) if kind == "D" else read_question(text[start:])
    except ParseError as error:
        raise ParseError(start + error.spot)
