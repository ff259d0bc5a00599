"""What several tests need: the diagrams of the document, many other ones, and plain looks at all trails."""
import itertools
import random
from fractions import Fraction

from seenanddone.web.diagrams import Diagram
from seenanddone.world.tables import Table
from seenanddone.world.worlds import World, even_world

FORK = Diagram(("a", "b", "c"), (("b", "a"), ("b", "c")))
MEET = Diagram(("a", "b", "c"), (("a", "b"), ("c", "b")))
BOW = Diagram(("x", "y"), (("x", "y"),), (("x", "y"),))
FRONT = Diagram(("x", "y", "z"), (("x", "z"), ("z", "y")), (("x", "y"),))
BACK = Diagram(("u", "x", "y"), (("u", "x"), ("u", "y"), ("x", "y")))
DIAMOND = Diagram(("a", "b", "c", "d"), (("a", "b"), ("a", "c"), ("b", "d"), ("c", "d")))

LONG = 10 ** 999
TOO_LONG = 10 ** 1000

# Values of many kinds; none of them is a diagram, a table or a world.
ODD = (
    None, True, False, 0, 1, -1, 7, TOO_LONG, -TOO_LONG, "", "q", "Q", "a b", "x" * 20000, "\t\n", (), ("q",), ("Q",),
    (0,), (0, 1), (1, 1), (True, 1), (None,), ((),), [], ["q"], [0, 1], {}, {"q": 1}, {0: "q"}, {(): ()}, {"q": {}},
    (((((((0,),),),),),),), [[[[[[[[]]]]]]]], ("q", "r"), ("r", "q"), ("q", "q"), ("q", 1), {("q", "r"): ()},
)
ODDER = ODD + (FORK, even_world(FORK).seen, even_world(FORK), (FORK,), {"q": FORK})

# None of these is a lot of some of the things a, b, c and x, y, z.
NO_LOTS = (
    None, True, 3, "a", "", ["a"], [], {}, {"a": 1}, ("q",), ("b", "a"), ("a", "a"), ("z", "x"), (1,), (None,), ("A",),
    (("a",),), ("a", 1), ("a", "q"), ("",), FORK, TOO_LONG,
)
NO_THINGS = (None, True, 0, "", "q", "A", (), ("a",), ("x",), ["a"], {}, {"a": 1}, FORK, TOO_LONG)
NO_DIAGRAMS = ODD + (even_world(FORK), even_world(FORK).seen, (("a", "b", "c"), (), ()), [FORK])


def lots_within(things, least=0):
    """All lots within some things, of at least so many."""
    return [lot for size in range(least, len(things) + 1) for lot in itertools.combinations(sorted(things), size)]


def has_ring(things, arrows):
    left = set(things)
    while left:
        free = {thing for thing in left if not any(b == thing and a in left for a, b in arrows)}
        if not free:
            return True
        left -= free
    return False


def all_diagrams(things):
    """Every diagram of these things."""
    pairs = list(itertools.combinations(things, 2))
    for turns in itertools.product((None, 0, 1), repeat=len(pairs)):
        arrows = tuple(sorted((a, b) if turn == 0 else (b, a) for (a, b), turn in zip(pairs, turns) if turn is not None))
        if has_ring(things, arrows):
            continue
        for bows in itertools.product((False, True), repeat=len(pairs)):
            yield Diagram(things, arrows, tuple(pair for pair, is_bow in zip(pairs, bows) if is_bow))


def small_diagrams():
    """Every diagram of one to three things."""
    for size in (1, 2, 3):
        yield from all_diagrams(("a", "b", "c")[:size])


def some_diagrams(many, size, seed, arrow=0.45, bow=0.3):
    """So many diagrams of so many things."""
    draw = random.Random(seed)
    things = ("a", "b", "c", "d", "e", "f")[:size]
    for _ in range(many):
        order = list(things)
        draw.shuffle(order)
        arrows = tuple(sorted(pair for pair in itertools.combinations(order, 2) if draw.random() < arrow))
        bows = tuple(pair for pair in itertools.combinations(things, 2) if draw.random() < bow)
        yield Diagram(things, arrows, bows)


def all_sayings(things):
    """Every triple of lots x, y and z no two of which meet, x and y not empty."""
    for places in itertools.product(range(4), repeat=len(things)):
        x, y, z = (tuple(t for t, place in zip(things, places) if place == at) for at in (1, 2, 3))
        if x and y:
            yield x, y, z


def some_sayings(things, many, seed):
    """So many of these triples, or all if there are fewer."""
    every = list(all_sayings(things))
    return every if len(every) <= many else random.Random(seed).sample(every, many)


def plain_joints(diagram, left, right):
    joints = []
    if (left, right) in diagram.arrows:
        joints.append(">")
    if (right, left) in diagram.arrows:
        joints.append("<")
    if (left, right) in diagram.bows or (right, left) in diagram.bows:
        joints.append("-")
    return joints


def plain_trails(diagram, start, end):
    """Every trail from one thing to another one, by all rows of things between them."""
    others = [thing for thing in diagram.things if thing not in (start, end)]
    for size in range(len(others) + 1):
        for inner in itertools.permutations(others, size):
            row = (start,) + inner + (end,)
            for joints in itertools.product(*(plain_joints(diagram, a, b) for a, b in zip(row, row[1:]))):
                trail = [start]
                for joint, thing in zip(joints, row[1:]):
                    trail += [joint, thing]
                yield tuple(trail)


def plain_meets(trail):
    return [trail[k] for k in range(2, len(trail) - 1, 2) if trail[k - 1] in ">-" and trail[k + 1] in "<-"]


def plain_ahead(diagram, thing):
    """All things from which a row of arrows leads to a thing."""
    found = set()
    for _ in diagram.things:
        found |= {a for a, b in diagram.arrows if b == thing or b in found}
    return found


def plain_open(diagram, trail, z):
    let = set(z).union(*(plain_ahead(diagram, thing) for thing in z))
    meets = plain_meets(trail)
    return all((thing in let) if thing in meets else (thing not in z) for thing in trail[2:-1:2])


def plain_barred(diagram, x, y, z):
    """Whether z bars x and y, by a look at all trails."""
    return not any(plain_open(diagram, trail, z) for a in x for b in y for trail in plain_trails(diagram, a, b))


def some_shares(draw, size, bottom=12):
    """A tuple of so many shares above 0."""
    tops = [draw.randint(1, bottom) for _ in range(size)]
    whole = sum(tops)
    return tuple(lowest(top, whole) for top in tops)


def lowest(top, bottom):
    import math
    shared = math.gcd(top, bottom)
    return (top // shared, bottom // shared)


def read_counts(diagram, sizes, hidden, thing):
    """The numbers of values of what the table of a thing reads."""
    parents = [sizes[a] for a, b in diagram.arrows if b == thing]
    return parents + [len(hidden[bow]) for bow in diagram.bows if thing in bow]


def rows_of(counts):
    return list(itertools.product(*(range(many) for many in counts)))


def world_parts(diagram, seed, sizes=(2, 3), hidden_sizes=(1, 2, 3)):
    """Sizes, hidden shares and tables of a world of a diagram."""
    draw = random.Random(seed)
    sizes = {thing: draw.choice(sizes) for thing in diagram.things}
    hidden = {bow: some_shares(draw, draw.choice(hidden_sizes)) for bow in diagram.bows}
    tables = {
        thing: {row: some_shares(draw, sizes[thing], 4) for row in rows_of(read_counts(diagram, sizes, hidden, thing))}
        for thing in diagram.things
    }
    return sizes, hidden, tables


def some_world(diagram, seed, sizes=(2, 3), hidden_sizes=(1, 2, 3)):
    return World(diagram, *world_parts(diagram, seed, sizes, hidden_sizes))


def check_errors(test, call, good, wrong, keywords=None):
    """Each wrong value raises its error, whatever else is wrong behind it.

    `good` are arguments that are right; `wrong` is a dict, in the order of the
    parameters, from indices or keywords to pairs (error, wrong values).
    """
    spots = list(wrong)
    for at, spot in enumerate(spots):
        error, values = wrong[spot]
        for value in values:
            for later in [None] + spots[at + 1:]:
                args, named = list(good), dict(keywords or {})
                for name, one in ((spot, value), (later, wrong[later][1][0] if later is not None else None)):
                    if isinstance(name, int):
                        args[name] = one
                    elif name is not None:
                        named[name] = one
                with test.assertRaises(error, msg=(spot, later, str(value)[:60])) as caught:
                    call(*args, **named)
                test.assertIs(type(caught.exception), error, (spot, later, str(value)[:60]))


def bowless_diagrams(things):
    """Every diagram of these things without bows."""
    pairs = list(itertools.combinations(things, 2))
    for turns in itertools.product((None, 0, 1), repeat=len(pairs)):
        arrows = tuple(sorted((a, b) if turn == 0 else (b, a) for (a, b), turn in zip(pairs, turns) if turn is not None))
        if not has_ring(things, arrows):
            yield Diagram(things, arrows)


def all_effects(things):
    """Every pair of lots x and y that do not meet, y not empty."""
    for places in itertools.product(range(3), repeat=len(things)):
        x, y = (tuple(t for t, place in zip(things, places) if place == at) for at in (1, 2))
        if y:
            yield x, y


def some_effects(things, many, seed):
    """So many of these pairs, or all if there are fewer."""
    every = list(all_effects(things))
    return every if len(every) <= many else random.Random(seed).sample(every, many)


def some_table(seed, sizes, least=1, most=9):
    """A table with any shares."""
    draw = random.Random(seed)
    rows = rows_of([sizes[thing] for thing in sorted(sizes)])
    tops = [draw.randint(least, most) for _ in rows]
    tops[0] += 1
    return Table(sizes, {row: lowest(top, sum(tops)) for row, top in zip(rows, tops)})


def as_fractions(table):
    return {row: Fraction(*share) for row, share in table.shares.items()}


def plain_sums(shares, things, lot):
    """The sums of shares of rows of some things over all that are not in a lot."""
    spots = [things.index(thing) for thing in lot]
    found = {}
    for row, share in shares.items():
        part = tuple(row[spot] for spot in spots)
        found[part] = found.get(part, 0) + share
    return found


def plain_done(world, deed):
    """The shares of all rows behind a deed, as [12.1] has them."""
    diagram, sizes, hidden, tables = world.diagram, world.sizes, world.hidden, world.tables
    bows, things = diagram.bows, diagram.things
    reads = {t: [a for a, b in diagram.arrows if b == t] + [bow for bow in bows if t in bow] for t in things}
    found = {}
    for row in rows_of([sizes[thing] for thing in things]):
        worth = dict(zip(things, row))
        found[row] = Fraction(0)
        if any(worth[thing] != value for thing, value in deed.items()):
            continue
        for drawn in rows_of([len(hidden[bow]) for bow in bows]):
            held = {**worth, **dict(zip(bows, drawn))}
            share = Fraction(1)
            for bow in bows:
                share *= Fraction(*hidden[bow][held[bow]])
            for thing in things:
                if thing not in deed:
                    share *= Fraction(*tables[thing][tuple(held[read] for read in reads[thing])][worth[thing]])
            found[row] += share
    return found


def all_deeds(sizes, lot):
    return [dict(zip(lot, row)) for row in rows_of([sizes[thing] for thing in lot])]


def check_judge(test, judge, right, wrong):
    """A judge takes each right value and no wrong one, and none of many other ones."""
    for value in right:
        test.assertIs(judge(value), True, str(value)[:200])
    for value in list(wrong) + list(ODDER):
        test.assertIs(judge(value), False, str(value)[:200])
