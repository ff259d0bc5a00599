"""Moving shares from some cells to others at the least cost."""
from seenanddone.base.helpers import lcm_of, lowest

_START = ("start",)
_END = ("end",)


def cheapest_moves(given, wanted, costs):
    """The pair of the shares that are moved from cells to cells, and of levels that show that no moves cost less.

    Given and wanted are dicts from cells to shares; costs is one from the pairs of cells between which shares can be
    moved to integers. The levels are integers of the pairs (0, cell) and (1, cell): no two differ by more than a cost
    lets, and where shares are moved they differ by just the cost.
    """
    bottom = lcm_of([share[1] for share in list(given.values()) + list(wanted.values())])
    room = {}
    steps = {}
    for cell in given:
        _add_step(room, steps, (_START, (0, cell)), (given[cell][0] * (bottom // given[cell][1]), 0))
    for one, other in costs:
        _add_step(room, steps, ((0, one), (1, other)), (bottom, costs[(one, other)]))
    for cell in wanted:
        _add_step(room, steps, ((1, cell), _END), (wanted[cell][0] * (bottom // wanted[cell][1]), 0))
    _move_all(room, steps)
    moved = {(one, other): lowest(room[((1, other), (0, one))], bottom) for one, other in costs}
    # Where all is moved at the least cost, no ring of steps with room costs less than nothing.
    cells = [(0, cell) for cell in given] + [(1, cell) for cell in wanted]
    levels = _levels({cell: (0, 0) for cell in cells}, {step: steps[step] for step in steps if room[step] > 0})
    return (moved, {cell: levels[cell][0] for cell in cells})


def _add_step(room, steps, step, told):
    """Add a step with its room and its cost, and the step back."""
    room[step] = told[0]
    room[step[::-1]] = 0
    steps[step] = told[1]
    steps[step[::-1]] = -told[1]


def _levels(firsts, steps):
    """The least pairs of a cost and a number of steps with which each spot is reached from some first ones."""
    levels = {spot: firsts[spot] for spot in firsts}
    is_lower = True
    while is_lower:
        is_lower = False
        for one, other in steps:
            if one in levels:
                cost, many = levels[one]
                further = (cost + steps[(one, other)], many + 1)
                if other not in levels or further < levels[other]:
                    levels[other] = further
                    is_lower = True
    return levels


def _move_all(room, steps):
    """Move as much as there is, each time along a cheapest row of steps, and of these along a shortest one."""
    levels = _levels({_START: (0, 0)}, {step: steps[step] for step in steps if room[step] > 0})
    while _END in levels:
        path = [_END]
        while path[-1] != _START:
            path.append(_ahead_of(path[-1], room, steps, levels))
        pairs = [(path[index + 1], path[index]) for index in range(len(path) - 1)]
        amount = min([room[pair] for pair in pairs])
        for one, other in pairs:
            room[(one, other)] = room[(one, other)] - amount
            room[(other, one)] = room[(other, one)] + amount
        levels = _levels({_START: (0, 0)}, {step: steps[step] for step in steps if room[step] > 0})


def _ahead_of(spot, room, steps, levels):
    """The spot from which another one is reached at its level."""
    cost, many = levels[spot]
    return [
        one for one, other in steps
        if other == spot and room[(one, other)] > 0 and levels.get(one) == (cost - steps[(one, other)], many - 1)
    ][0]
