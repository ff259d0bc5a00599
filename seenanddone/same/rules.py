"""Rules by which arrows follow from ties, and from what meets and what passes between two parted things.

A corner (a, b, c) has a thing b that is tied to a and to c, which are not tied. Corners that meet, or pass, are
told both ways about, as the keys of a dict.
"""
from seenanddone.base.helpers import lot_of, pair_of
from seenanddone.ties.webs import Web, corner_order
from seenanddone.web.diagrams import has_ring


def tied_by(things, pairs):
    """The dict from things to the lots of the things that arrows or ties join to them."""
    return {
        thing: lot_of([pair[1] if pair[0] == thing else pair[0] for pair in pairs if thing in pair])
        for thing in things
    }


def corners_of(tied):
    """The list of all corners."""
    return [(a, b, c) for a in tied for b in tied[a] for c in tied[b] if c != a and c not in tied[a]]


def meeting_corners(tied, arrows):
    """The corners that meet where some arrows stand."""
    return {(a, b, c): True for a, b, c in corners_of(tied) if (a, b) in arrows and (c, b) in arrows}


def arrows_of_row(row):
    """The tuple of the arrows that a row of rules tells."""
    if row[0] == "meet":
        return ((row[1], row[2]), (row[3], row[2]))
    if row[0] == "one":
        return ((row[2], row[3]),)
    if row[0] == "two":
        return ((row[1], row[3]),)
    return ((row[1], row[2]),)


def _following(told, tied, passes):
    """The list of the rows that tell an arrow by the told ones."""
    rows = []
    for a, b in told:
        rows.extend([("one", a, b, c) for c in tied[b] if (a, b, c) in passes])
        rows.extend([("two", a, b, c) for c in tied[b] if (b, c) in told and c in tied[a]])
        rows.extend([
            ("three", d, b, a, c)
            for c in tied[b] if a < c and (c, b) in told
            for d in tied[b] if (a, d, c) in passes
        ])
    return rows


def rows_by_rules(tied, meets, passes):
    """The list of rows, each of which tells a further arrow, that tell all arrows that any rows tell."""
    rows = []
    told = {}
    waiting = [("meet", a, b, c) for a, b, c in meets if a < c]
    while waiting:
        for row in waiting:
            further = [arrow for arrow in arrows_of_row(row) if arrow not in told]
            if further:
                rows.append(row)
                for arrow in further:
                    told[arrow] = True
        following = _following(told, tied, passes)
        waiting = [row for row in following if arrows_of_row(row)[0] not in told]
    return rows


def arrows_of_rows(rows):
    """The ascending tuple of the arrows that some rows tell."""
    return lot_of([arrow for row in rows for arrow in arrows_of_row(row)])


def split_ties(things, pairs, meets):
    """The pair of the arrows that rules tell by what meets, and of the other ties, as pairs, that stay open."""
    tied = tied_by(things, pairs)
    passes = {corner: True for corner in corners_of(tied) if corner not in meets}
    arrows = arrows_of_rows(rows_by_rules(tied, meets, passes))
    turned = [pair_of(one, other) for one, other in arrows]
    return (arrows, lot_of([pair_of(one, other) for one, other in pairs if pair_of(one, other) not in turned]))


def all_turned(things, arrows, open_ties):
    """The arrows, and the open ties turned along a corner order, without a ring; None if that cannot be."""
    order = corner_order(Web(things, open_ties))
    if order is None:
        return None
    # What is tied to a thing and stands behind it in the order is ahead of it, so that nothing new meets.
    turned = [
        (other, one) if order.index(one) < order.index(other) else (one, other)
        for one, other in open_ties
    ]
    found = tuple(sorted(arrows + tuple(turned)))
    return None if has_ring(things, found) else found


def way_between(arrows, start, end):
    """The tuple of the things on a shortest way along some arrows, or None."""
    found = {start: (start,)}
    waiting = [start]
    while waiting and end not in found:
        cause = waiting.pop(0)
        for effect in [pair[1] for pair in arrows if pair[0] == cause]:
            if effect not in found:
                found[effect] = found[cause] + (effect,)
                waiting.append(effect)
    return found.get(end)
