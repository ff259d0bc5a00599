"""Pictures: what all diagrams without bows that have the same sayings have in common."""
from seenanddone.base.helpers import is_whole_within, pair_of
from seenanddone.base.numbers import is_lot
from seenanddone.errors import InvalidLot, InvalidNumber, InvalidOperation, InvalidWeb, UnknownName
from seenanddone.same.rules import (
    all_turned, arrows_of_row, corners_of, meeting_corners, rows_by_rules, split_ties, tied_by)
from seenanddone.web.checks import need_bowless, need_diagram
from seenanddone.web.diagrams import MAX_THINGS, Diagram, are_arrows, are_bows, districts_of

_MOST_ROWS = 30


class Picture:
    """Things, the arrows that all members have, and the ties that they turn both ways."""

    def __init__(self, things, arrows=(), open_ties=()):
        if not is_lot(things) or not 1 <= len(things) <= MAX_THINGS:
            raise InvalidWeb("the things are no lot of one to six names")
        if not are_arrows(arrows, things) or not are_bows(open_ties, things):
            raise InvalidWeb("no ascending tuples of pairs of things")
        if not _is_picture(things, arrows, open_ties):
            raise InvalidWeb("no diagram has this picture")
        self._things = things
        self._arrows = arrows
        self._open_ties = open_ties
        tied = tied_by(things, open_ties)
        self._pieces = _pieces_of(things, tied)
        members = [arrows]
        for piece in self._pieces:
            members = [one + other for one in members for other in _turned_ways(tied, piece, {})]
        self._members = tuple(sorted([tuple(sorted(member)) for member in members]))

    @property
    def things(self):
        """The lot of the things."""
        return self._things

    @property
    def arrows(self):
        """The ascending tuple of the arrows that all members have."""
        return self._arrows

    @property
    def open_ties(self):
        """The ascending tuple of the ascending pairs that members turn both ways."""
        return self._open_ties

    @property
    def pieces(self):
        """The lots of two or more things that rows of open ties join, by their first things."""
        return self._pieces

    @property
    def ways(self):
        """How many members there are."""
        return len(self._members)

    def members(self):
        """All members, ascending by their arrows."""
        for arrows in self._members:
            yield Diagram(self._things, arrows)

    def member(self, index):
        """The member with an index."""
        if not is_whole_within(index, 0, len(self._members) - 1):
            raise InvalidNumber(index)
        return Diagram(self._things, self._members[index])

    def index_of(self, diagram):
        """The index of a member."""
        need_diagram(diagram)
        if diagram not in self:
            raise InvalidOperation("no member of the picture")
        return self._members.index(diagram.arrows)

    def __contains__(self, value):
        return (isinstance(value, Diagram) and value.things == self._things
                and len(value.bows) == 0 and value.arrows in self._members)

    def __len__(self):
        return len(self._things)

    def __eq__(self, other):
        return (isinstance(other, Picture) and self._things == other._things
                and self._arrows == other._arrows and self._open_ties == other._open_ties)

    def __str__(self):
        return f"picture of {len(self._things)} things, {len(self._arrows)} arrows, {len(self._open_ties)} open ties"


def _parts_of_picture(things, arrows):
    """The pair of the arrows and of the open ties of the picture of a diagram with these arrows."""
    return split_ties(things, arrows, meeting_corners(tied_by(things, arrows), arrows))


def _is_picture(things, arrows, open_ties):
    """Whether arrows and open ties make the picture of a diagram."""
    member = all_turned(things, arrows, open_ties)
    return member is not None and _parts_of_picture(things, member) == (arrows, open_ties)


def _pieces_of(lot, tied):
    """The lots of two or more things within a lot that ties join, by their first things."""
    return tuple([piece for piece in districts_of(lot, tied) if len(piece) > 1])


def _source_arrows(tied, piece, source):
    """The ascending tuple of the arrows that all ways to turn a piece from a source have in common."""
    told = {}
    waiting = [(source, thing) for thing in tied[source] if thing in piece]
    while waiting:
        a, b = waiting.pop()
        if (a, b) not in told:
            told[(a, b)] = True
            # Nothing new may meet: so an arrow goes on to what is not tied to its cause.
            waiting.extend([(b, c) for c in tied[b] if c in piece and c != a and c not in tied[a]])
    return tuple(sorted(told))


def _turned_ways(tied, piece, known):
    """The list of the tuples of arrows, one for each way to turn a piece; known keeps those of pieces."""
    if piece not in known:
        found = []
        for source in piece:
            arrows = _source_arrows(tied, piece, source)
            left = {
                thing: [
                    other for other in tied[thing]
                    if other in piece and (thing, other) not in arrows and (other, thing) not in arrows
                ]
                for thing in piece
            }
            begun = [arrows]
            for lesser in _pieces_of(piece, left):
                begun = [one + other for one in begun for other in _turned_ways(tied, lesser, known)]
            found.extend(begun)
        known[piece] = found
    return known[piece]


def picture_of(diagram):
    """The picture of a diagram without bows."""
    need_diagram(diagram)
    need_bowless(diagram)
    arrows, open_ties = _parts_of_picture(diagram.things, diagram.arrows)
    return Picture(diagram.things, arrows, open_ties)


def open_ties_of(diagram):
    """The open ties of the picture of a diagram without bows."""
    return _parts_of_picture(diagram.things, diagram.arrows)[1]


def need_picture(picture):
    """Raise unless it is a picture."""
    if not isinstance(picture, Picture):
        raise InvalidWeb("no picture")


def _need_tie(picture, tie):
    need_picture(picture)
    turned = [pair_of(one, other) for one, other in picture.arrows]
    if tie not in picture.open_ties and tie not in turned:
        raise InvalidOperation("no tie of the picture")


def _arrow_of(picture, tie):
    """The arrow of the picture at a tie that is turned."""
    return tie if tie in picture.arrows else (tie[1], tie[0])


def sure_rows(picture, tie):
    """A paper that shows how a tie is turned, or None for an open tie."""
    _need_tie(picture, tie)
    if tie in picture.open_ties:
        return None
    tied = tied_by(picture.things, picture.arrows + picture.open_ties)
    meets = meeting_corners(tied, picture.arrows)
    passes = {corner: True for corner in corners_of(tied) if corner not in meets}
    arrow = _arrow_of(picture, tie)
    rows = rows_by_rules(tied, meets, passes)
    last = [index for index, row in enumerate(rows) if arrow in arrows_of_row(row)][0]
    return tuple(rows[:last + 1])


def is_sure_rows(picture, tie, value):
    """Whether the value is a paper that shows how a tie is turned."""
    _need_tie(picture, tie)
    if tie in picture.open_ties or not isinstance(value, tuple) or not 1 <= len(value) <= _MOST_ROWS:
        return False
    tied = tied_by(picture.things, picture.arrows + picture.open_ties)
    told = ()
    for row in value:
        if not _is_rule_row(tied, told, row) or not all([arrow in picture.arrows for arrow in arrows_of_row(row)]):
            return False
        told = told + arrows_of_row(row)
    return _arrow_of(picture, tie) in arrows_of_row(value[-1])


def _is_rule_row(tied, told, row):
    """Whether a value is a row whose things stand as its rule wants, behind rows that have told some arrows."""
    if not isinstance(row, tuple) or len(row) < 4 or not all([thing in tuple(tied) for thing in row[1:]]):
        return False
    a, b, c = row[1:4]
    if len(row) == 5:
        d = row[4]
        return (row[0] == "three" and c < d and (c, b) in told and (d, b) in told
                and c in tied[a] and d in tied[a] and c not in tied[d])
    if len(row) > 5:
        return False
    if row[0] == "meet":
        return a < c and a not in tied[c]
    if row[0] == "one":
        return (a, b) in told and a not in tied[c]
    return row[0] == "two" and (a, b) in told and (b, c) in told


def two_members(picture, tie):
    """Two members that turn a tie from the lesser name and to it, or None if it is turned."""
    _need_tie(picture, tie)
    if tie not in picture.open_ties:
        return None
    members = list(picture.members())
    one = [member for member in members if tie in member.arrows][0]
    other = [member for member in members if tie not in member.arrows][0]
    return (one, other)


def is_two_members(picture, tie, value):
    """Whether the value is two members that turn a tie from the lesser name and to it."""
    _need_tie(picture, tie)
    if not isinstance(value, tuple) or len(value) != 2 or not all([member in picture for member in value]):
        return False
    return tie in value[0].arrows and (tie[1], tie[0]) in value[1].arrows


def turned_from(picture, piece, thing):
    """The arrows within a piece that all members have in which a thing of it is its source."""
    need_picture(picture)
    if piece not in picture.pieces:
        raise InvalidLot("no piece of the picture")
    if thing not in piece:
        raise UnknownName(thing)
    return _source_arrows(tied_by(picture.things, picture.open_ties), piece, thing)
