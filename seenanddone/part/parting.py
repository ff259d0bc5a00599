"""Deeds that part a picture: which members stay alike under some lots, and the fewest lots that tell all members."""
from seenanddone.base.helpers import is_whole_within, lot_of, pair_of, pairs_of
from seenanddone.base.numbers import is_lot_of, lots_of
from seenanddone.errors import InvalidLot
from seenanddone.same.pictures import need_picture, picture_of
from seenanddone.same.sayings import can_turn, turned_about
from seenanddone.ties.webs import Web, corner_order
from seenanddone.web.checks import need_diagram

MAX_LOTS = 8


def are_lots_of(value, names):
    """Whether the value is a tuple of at most eight lots of some of the names."""
    return isinstance(value, tuple) and len(value) <= MAX_LOTS and all([is_lot_of(lot, names) for lot in value])


def _need_parted(picture, lots):
    need_picture(picture)
    _need_lots(lots, picture.things)


def _need_lots(lots, things):
    if not are_lots_of(lots, things):
        raise InvalidLot("no tuple of at most eight lots of the things")


def does_cut(lot, tie):
    """Whether just one end of a tie is in a lot."""
    return (tie[0] in lot) != (tie[1] in lot)


def _uncut(picture, lots):
    """The list of the open ties that no lot cuts."""
    return [tie for tie in picture.open_ties if not any([does_cut(lot, tie) for lot in lots])]


def does_tell(picture, lots):
    """Whether no two members of a picture are alike under some lots."""
    _need_parted(picture, lots)
    return len(_uncut(picture, lots)) == 0


def unparted(picture, lots):
    """An open tie, and two members that turn it both ways and are alike under some lots; None if there are none."""
    _need_parted(picture, lots)
    uncut = _uncut(picture, lots)
    if len(uncut) == 0:
        return None
    tie = uncut[0]
    for member in picture.members():
        if can_turn(member, tie):
            return (tie, member, turned_about(member, tie))
    return None


def is_unparted(picture, lots, value):
    """Whether the value is an open tie and two members that turn it both ways and are alike under some lots."""
    _need_parted(picture, lots)
    if not isinstance(value, tuple) or len(value) != 3 or value[0] not in _uncut(picture, lots):
        return False
    tie, one, other = value
    if one not in picture or other not in picture:
        return False
    return tie in one.arrows and tie not in other.arrows and _are_alike(one.arrows, other.arrows, lots)


def _are_alike(one, other, lots):
    """Whether the arrows of two members leave the same ties where each of some lots is cut."""
    return all([_ties_behind(one, lot) == _ties_behind(other, lot) for lot in lots])


def _ties_behind(arrows, lot):
    """The lot of the ties that are left where a lot is cut."""
    return lot_of([pair_of(cause, effect) for cause, effect in arrows if effect not in lot])


def left_by(diagram, lots):
    """The ascending tuple of the members of the picture of a diagram that are alike with it under some lots."""
    need_diagram(diagram)
    _need_lots(lots, diagram.things)
    picture = picture_of(diagram)
    members = list(picture.members())
    return tuple([member for member in members if _are_alike(diagram.arrows, member.arrows, lots)])


def parted_arrows(diagram, lots):
    """The ascending tuple of the arrows that all members have which some lots leave."""
    members = left_by(diagram, lots)
    return tuple([arrow for arrow in diagram.arrows if all([arrow in member.arrows for member in members])])


def _are_all_open(picture, lot):
    return all([pair in picture.open_ties for pair in pairs_of(lot)])


def greatest_clique(picture):
    """A lot, as great as can be, of things of which each two have an open tie."""
    need_picture(picture)
    greatest = ()
    # The longer lots come later.
    for lot in lots_of(picture.things):
        if _are_all_open(picture, lot):
            greatest = lot
    return greatest


def is_greatest_clique(picture, value):
    """Whether the value is a lot, as great as can be, of things of which each two have an open tie."""
    greatest = greatest_clique(picture)
    return is_lot_of(value, picture.things) and len(value) == len(greatest) and _are_all_open(picture, value)


def _fewest(picture):
    """How many lots it takes to tell a picture."""
    return (len(greatest_clique(picture)) - 1).bit_length()


def fewest_lots(picture):
    """A tuple of lots that tells a picture, with as few lots as can be."""
    told = colours(picture)
    return tuple([
        tuple([thing for thing in told if (told[thing] >> digit) & 1 == 1])
        for digit in range(_fewest(picture))
    ])


def is_fewest_lots(picture, value):
    """Whether the value is a tuple of lots that tells a picture, with as few lots as can be."""
    need_picture(picture)
    if not are_lots_of(value, picture.things) or len(value) != _fewest(picture):
        return False
    return len(_uncut(picture, value)) == 0


def colours(picture):
    """A dict from all things to integers, unlike at both ends of each open tie, as few as can be."""
    need_picture(picture)
    web = Web(picture.things, picture.open_ties)
    told = {}
    # Against a corner order the tied things that have a colour already are all tied to one another.
    for thing in corner_order(web)[::-1]:
        taken = [told[other] for other in web.tied(thing) if other in told]
        told[thing] = min([colour for colour in range(len(taken) + 1) if colour not in taken])
    return {thing: told[thing] for thing in picture.things}


def is_colours(picture, value):
    """Whether the value is a dict of such integers."""
    most = len(greatest_clique(picture)) - 1
    if not isinstance(value, dict) or len(value) != len(picture):
        return False
    if not all([thing in value and is_whole_within(value[thing], 0, most) for thing in picture.things]):
        return False
    return all([value[one] != value[other] for one, other in picture.open_ties])
