"""Stage 3: worlds."""
import copy
import itertools
import unittest
from fractions import Fraction

from seenanddone.errors import InvalidDiagram, InvalidNumber, InvalidWorld, TooMany
from seenanddone.web.diagrams import Diagram
from seenanddone.world.tables import Table
from seenanddone.world.worlds import MAX_BOTTOM, MAX_HIDDEN, World, even_world
from tests.helper import (
    BOW, FORK, FRONT, MEET, NO_DIAGRAMS, ODD, TOO_LONG, check_errors, lots_within, read_counts, rows_of, small_diagrams,
    some_diagrams, some_world, world_parts)

LOOSE = Diagram(("a", "b"))
THREE = Diagram(("a", "b", "c"), (("a", "b"),), (("a", "b"), ("a", "c"), ("b", "c")))
SIX = ("a", "b", "c", "d", "e", "f")


def pair(value):
    return (value.numerator, value.denominator)


def plain_seen(diagram, sizes, hidden, tables):
    """The share of each row, as the sum over all hidden values of the products of all shares."""
    things = diagram.things
    found = {}
    for row in rows_of([sizes[thing] for thing in things]):
        value = dict(zip(things, row))
        found[row] = Fraction(0)
        for drawn in rows_of([len(hidden[bow]) for bow in diagram.bows]):
            draw = dict(zip(diagram.bows, drawn))
            share = Fraction(1)
            for bow in diagram.bows:
                share *= Fraction(*hidden[bow][draw[bow]])
            for thing in things:
                read = [value[a] for a, b in diagram.arrows if b == thing]
                read += [draw[bow] for bow in diagram.bows if thing in bow]
                share *= Fraction(*tables[thing][tuple(read)][value[thing]])
            found[row] += share
    return {row: pair(share) for row, share in found.items()}


def part_world(world, lot):
    """The world of a part, in which hidden things whose other end is left out are summed out."""
    diagram, hidden = world.diagram, world.hidden
    part = diagram.part(lot)
    tables = {}
    for thing in lot:
        parents = [a for a, b in diagram.arrows if b == thing]
        bows = [bow for bow in diagram.bows if thing in bow]
        table = {}
        for row, shares in world.tables[thing].items():
            values = dict(zip(bows, row[len(parents):]))
            weight = Fraction(1)
            for bow in bows:
                if bow not in part.bows:
                    weight *= Fraction(*hidden[bow][values[bow]])
            kept = row[:len(parents)] + tuple(values[bow] for bow in bows if bow in part.bows)
            sums = table.setdefault(kept, [Fraction(0)] * len(shares))
            table[kept] = [one + weight * Fraction(*share) for one, share in zip(sums, shares)]
        tables[thing] = {row: tuple(map(pair, sums)) for row, sums in table.items()}
    return World(part, {thing: world.sizes[thing] for thing in lot}, {bow: hidden[bow] for bow in part.bows}, tables)


class WorldTest(unittest.TestCase):
    def test_constants(self):
        self.assertEqual((MAX_HIDDEN, MAX_BOTTOM), (256, 1000000))

    def test_seen(self):
        diagrams = list(small_diagrams())[::5] + [LOOSE, FORK, MEET, BOW, FRONT, THREE]
        diagrams += list(some_diagrams(6, 4, 5, bow=0.25))
        self.assertLessEqual({0, 1, 3}, {len(diagram.bows) for diagram in diagrams})
        for seed, diagram in enumerate(diagrams):
            if len(diagram.bows) > 4:
                continue
            parts = world_parts(diagram, seed)
            world = World(diagram, *parts)
            self.assertEqual(world.seen.shares, plain_seen(diagram, *parts))
            self.assertIsInstance(world.seen, Table)
            self.assertEqual(world.seen, Table(parts[0], world.seen.shares))
            self.assertIs(world.full, True)
            self.assertEqual((world.diagram, world.sizes, world.hidden, world.tables), (diagram,) + parts)
            self.assertEqual(len(world), len(world.seen))
            self.assertEqual(str(world), f"world of {len(diagram.things)} things, {len(diagram.bows)} bows")

    def test_seen_with_shares_of_0(self):
        never = ((0, 1), (1, 1))
        tables = {"a": {(0,): never, (1,): ((1, 1), (0, 1))}, "b": {(0, 0): never, (0, 1): ((1, 3), (2, 3)),
                                                                     (1, 0): ((1, 2), (1, 2)), (1, 1): never}}
        diagram = Diagram(("a", "b"), (("a", "b"),), (("a", "b"),))
        parts = ({"a": 2, "b": 2}, {("a", "b"): ((1, 4), (3, 4))}, tables)
        world = World(diagram, *parts)
        self.assertEqual(world.seen.shares, plain_seen(diagram, *parts))
        self.assertEqual(world.seen.shares, {(0, 0): (1, 4), (0, 1): (1, 2), (1, 0): (1, 8), (1, 1): (1, 8)})
        self.assertIs(world.full, True)
        parts[2]["a"] = {(0,): never, (1,): never}
        self.assertIs(World(diagram, *parts).full, False)

    def test_returned_dicts_ascend(self):
        sizes, hidden, tables = world_parts(THREE, 4)
        turned = [dict(reversed(list(part.items()))) for part in (sizes, hidden, tables)]
        turned[2] = {thing: dict(reversed(list(table.items()))) for thing, table in turned[2].items()}
        world = World(THREE, *turned)
        self.assertEqual(world, World(THREE, sizes, hidden, tables))
        for part in [world.sizes, world.hidden, world.tables, world.seen.shares] + list(world.tables.values()):
            self.assertEqual(list(part), sorted(part))

    def test_parts(self):
        for seed, diagram in enumerate(list(small_diagrams())[::3] + list(some_diagrams(12, 4, 7, bow=0.25))):
            if len(diagram.bows) > 4:
                continue
            world = some_world(diagram, seed, (2,), (1, 2))
            for lot in lots_within(diagram.things, 1):
                if diagram.with_ahead(lot) == lot:
                    self.assertEqual(world.seen.summed(lot), part_world(world, lot).seen)

    def test_nothing_is_shared(self):
        parts = world_parts(THREE, 2)
        passed = copy.deepcopy(parts)
        world, twin = World(THREE, *passed), World(THREE, *parts)
        self.assertEqual(passed, parts)
        passed[0]["a"] = 9
        passed[1].clear()
        passed[2]["a"].clear()
        passed[2]["b"][0, 0, 0] = None
        world.sizes.clear()
        world.hidden[("a", "b")] = None
        world.tables["a"].clear()
        world.tables.clear()
        world.seen.shares.clear()
        self.assertEqual(world, twin)
        self.assertEqual((world.sizes, world.hidden, world.tables), parts)

    def test_equal(self):
        worlds = [some_world(diagram, seed) for diagram in (LOOSE, FORK, MEET, THREE) for seed in range(3)]
        for one, other in itertools.product(worlds, worlds):
            self.assertIs(one == other, one is other)
            self.assertIs(one != other, one is not other)
        self.assertEqual(some_world(FRONT, 3), some_world(FRONT, 3))
        # The same tables in another diagram.
        half = ((1, 2), (1, 2))
        tables = {"a": {(): half}, "b": {(): half}, "c": {(0,): half, (1,): ((1, 3), (2, 3))}}
        one, other = (World(Diagram(("a", "b", "c"), ((cause, "c"),)), {"a": 2, "b": 2, "c": 2}, {}, tables) for cause in "ab")
        self.assertIs(one == other, False)
        # Bows that nothing heeds leave the seen table as it is, but make another world.
        even, bowed = even_world(LOOSE), even_world(Diagram(("a", "b"), (), (("a", "b"),)))
        self.assertEqual(even.seen, bowed.seen)
        self.assertIs(even == bowed, False)
        parts = world_parts(BOW, 1, (2,), (2,))
        for value in ODD + (FORK, worlds[0].seen, parts):
            self.assertIs(worlds[0] == value, False)
            self.assertIs(value == worlds[0], False)
            self.assertIs(worlds[0] != value, True)
        hidden = {("x", "y"): tuple(reversed(parts[1]["x", "y"]))}
        self.assertNotEqual(World(BOW, parts[0], hidden, parts[2]), World(BOW, *parts))

    def test_operands_of_another_kind(self):
        world = even_world(FORK)
        for call in (lambda: iter(world), lambda: list(world), lambda: world < world, lambda: world + world, lambda: world["a"]):
            with self.assertRaises(TypeError):
                call()


class WrongWorldTest(unittest.TestCase):
    def setUp(self):
        self.diagram = FRONT
        self.parts = world_parts(FRONT, 1, (2,), (2,))

    def assert_none(self, *parts, diagram=None):
        with self.assertRaises(InvalidWorld, msg=str(parts)[:90]) as caught:
            World(diagram or self.diagram, *parts)
        self.assertIs(type(caught.exception), InvalidWorld)

    def test_diagram_is_first(self):
        for value in NO_DIAGRAMS:
            with self.assertRaises(InvalidDiagram):
                World(value, None, None, None)
            with self.assertRaises(InvalidDiagram):
                World(value, *self.parts)

    def test_kinds(self):
        for at in range(3):
            for value in ODD + (FORK, even_world(FORK), even_world(FORK).seen):
                parts = list(self.parts)
                parts[at] = value
                self.assert_none(*parts)

    def test_sizes(self):
        sizes, hidden, tables = self.parts
        for size in (1, 0, -1, 17, 3, True, None, "2", [], TOO_LONG):
            self.assert_none({**sizes, "z": size}, hidden, tables)
        self.assert_none({"x": 2, "y": 2}, hidden, tables)
        self.assert_none({**sizes, "q": 2}, hidden, tables)
        self.assert_none({"x": 2, "y": 2, "q": 2}, hidden, tables)
        self.assert_none({"x": 2, "y": 2, "z": 2, None: 2}, hidden, tables)

    def test_hidden(self):
        sizes, hidden, tables = self.parts
        half = ((1, 2), (1, 2))
        for value in ({}, {("x", "y"): half, ("x", "z"): half}, {("y", "x"): half}, {("x", "z"): half}, {"xy": half}, {None: half}):
            self.assert_none(sizes, value, tables)
        for value in (None, (), ((1, 2),), ((1, 2), (1, 3)), [(1, 2), (1, 2)], ((3, 2), (-1, 2)), ((2, 4), (1, 2)), True,
                      ((1, 3),) * 3, ((1, 1),), ((True, 2), (1, 2)), half + half, ((0, 1), (1, 2), (1, 2)), FORK):
            self.assert_none(sizes, {("x", "y"): value}, tables)
        World(FRONT, sizes, {("x", "y"): ((0, 1), (1, 1))}, tables)

    def test_tables(self):
        sizes, hidden, tables = self.parts
        half = ((1, 2), (1, 2))
        for thing in "xyz":
            self.assert_none(sizes, hidden, {key: tables[key] for key in tables if key != thing})
            for value in (None, (), [], "x", {(): half}, {0: half}, list(tables[thing].items()), FORK, {}):
                self.assert_none(sizes, hidden, {**tables, thing: value})
            for row in tables[thing]:
                less = {key: tables[thing][key] for key in tables[thing] if key != row}
                self.assert_none(sizes, hidden, {**tables, thing: less})
                for other in (row + (0,), row[1:], (2,) * len(row), (-1,) * len(row), None, 0, "0", (True,) * len(row),
                              (False,) * len(row), (None,) * len(row), (TOO_LONG,) * len(row)):
                    if other != row or other[0] is False:
                        rest = {key: tables[thing][key] for key in tables[thing] if key != row and key != other}
                        self.assert_none(sizes, hidden, {**tables, thing: {**rest, other: half}})
                for shares in (None, (), ((1, 1),), ((1, 3),) * 3, ((1, 2), (1, 3)), [(1, 2), (1, 2)], ((3, 2), (-1, 2)), (1, 2),
                               ((2, 4), (1, 2)), ((True, 2), (1, 2)), (HALF_LIST, HALF_LIST), True, ((1, TOO_LONG), (1, 2))):
                    self.assert_none(sizes, hidden, {**tables, thing: {**tables[thing], row: shares}})
        self.assert_none(sizes, hidden, {**tables, "q": {(): half}})
        self.assert_none(sizes, hidden, {"x": tables["x"], "y": tables["y"], "q": tables["z"]})

    def test_bound_on_values(self):
        one = Diagram(("a",))
        for size in (2, 16):
            self.assertEqual(len(World(one, {"a": size}, {}, {"a": {(): ((1, size),) * size}})), size)
        for size in (1, 17):
            self.assert_none({"a": size}, {}, {"a": {(): ((1, size),) * size}}, diagram=one)

    def test_bound_on_rows(self):
        for size, things in ((16, "abc"), (4, "abcdef")):
            diagram = Diagram(tuple(things))
            tables = {thing: {(): ((1, size),) * size} for thing in things}
            world = World(diagram, {thing: size for thing in things}, {}, tables)
            self.assertEqual((len(world), world.seen.share({})), (4096, (1, 1)))
        sizes = {"a": 16, "b": 16, "c": 16, "d": 2}
        tables = {thing: {(): ((1, sizes[thing]),) * sizes[thing]} for thing in sizes}
        self.assert_none(sizes, {}, tables, diagram=Diagram(("a", "b", "c", "d")))

    def bowed(self, *counts):
        """A diagram with a row of bows, and parts with so many values of its hidden things."""
        things = SIX[:len(counts) + 1]
        bows = tuple(zip(things, things[1:]))
        diagram = Diagram(things, (), bows)
        sizes = {thing: 2 for thing in things}
        hidden = {bow: ((1, many),) * many for bow, many in zip(bows, counts)}
        tables = {thing: {row: ((1, 2), (1, 2)) for row in rows_of(read_counts(diagram, sizes, hidden, thing))} for thing in things}
        return diagram, (sizes, hidden, tables)

    def test_bound_on_hidden_values(self):
        for counts in ((1,), (16,), (16, 16), (4, 4, 4, 4), (2, 1, 8, 16)):
            diagram, parts = self.bowed(*counts)
            self.assertEqual(World(diagram, *parts).seen.share({"a": 0}), (1, 2))
        for counts in ((17,), (16, 16, 2), (4, 4, 4, 5), (16, 17)):
            diagram, parts = self.bowed(*counts)
            self.assert_none(*parts, diagram=diagram)
        full = Diagram(SIX, (), tuple(itertools.combinations(SIX, 2)))
        sizes = {thing: 2 for thing in SIX}
        for many in (8, 9):
            hidden = {bow: ((1, 2), (1, 2)) if k < many else ((1, 1),) for k, bow in enumerate(full.bows)}
            tables = {thing: {row: ((1, 3), (2, 3)) for row in rows_of(read_counts(full, sizes, hidden, thing))} for thing in SIX}
            if many == 8:
                self.assertEqual(World(full, sizes, hidden, tables).seen.share({"a": 0, "f": 1}), (2, 9))
            else:
                self.assert_none(sizes, hidden, tables, diagram=full)

    def test_bound_on_bottoms(self):
        most = MAX_BOTTOM
        sizes, hidden, tables = self.parts
        for bottom in (most, most + 1):
            long = ((1, bottom), (bottom - 1, bottom))
            for parts in ((sizes, {("x", "y"): long}, tables), (sizes, hidden, {**tables, "z": {(0,): long, (1,): ((1, 2), (1, 2))}})):
                if bottom == most:
                    self.assertEqual(World(FRONT, *parts).hidden, parts[1])
                else:
                    self.assert_none(*parts)
        # 999 * 1001 is at most 1,000,000, and 1000 * 1001 is above it.
        one, other, third = ((1, 999), (998, 999)), ((1, 1001), (1000, 1001)), ((1, 1000), (999, 1000))
        World(FRONT, sizes, hidden, {**tables, "z": {(0,): one, (1,): other}})
        self.assert_none(sizes, hidden, {**tables, "z": {(0,): third, (1,): other}})
        # Each table has a bound of its own.
        World(FRONT, sizes, {("x", "y"): third}, {**tables, "z": {(0,): other, (1,): other}})

    def test_large_world(self):
        """All bounds at once: 4096 rows and 256 values of hidden things."""
        things = ("a", "b", "c")
        diagram = Diagram(things, (("a", "b"), ("b", "c")), (("a", "b"), ("a", "c")))
        sizes = {thing: 16 for thing in things}
        hidden = {bow: ((1, 16),) * 16 for bow in diagram.bows}
        tables = {thing: {row: tuple((1, 16) for _ in range(16)) for row in rows_of(read_counts(diagram, sizes, hidden, thing))}
                  for thing in things}
        self.assertEqual(World(diagram, sizes, hidden, tables).seen.share({"a": 3, "c": 5}), (1, 256))


HALF_LIST = [1, 2]


class EvenWorldTest(unittest.TestCase):
    def test_even(self):
        for diagram in list(small_diagrams())[::7] + [FRONT, BOW]:
            for size in (2, 3, 16):
                if len(diagram.things) == 3 and size == 16 and len(diagram.arrows) > 1:
                    continue
                world = even_world(diagram, size)
                self.assertEqual(world.sizes, {thing: size for thing in diagram.things})
                self.assertEqual(world.hidden, {bow: ((1, 2), (1, 2)) for bow in diagram.bows})
                for thing in diagram.things:
                    rows = rows_of(read_counts(diagram, world.sizes, world.hidden, thing))
                    self.assertEqual(world.tables[thing], {row: ((1, size),) * size for row in rows})
                self.assertEqual(set(world.seen.shares.values()), {(1, size ** len(diagram.things))})
            self.assertEqual(even_world(diagram), even_world(diagram, 2))

    def test_bounds(self):
        self.assertEqual(len(even_world(Diagram(SIX), 4)), 4096)
        self.assertEqual(len(even_world(Diagram(("a", "b", "c")), 16)), 4096)
        pairs = tuple(itertools.combinations(SIX, 2))
        self.assertEqual(len(even_world(Diagram(SIX, (), pairs[:8]))), 64)
        for diagram, size, limit in ((Diagram(SIX), 5, 4096), (Diagram(("a", "b", "c", "d")), 9, 4096),
                                     (Diagram(SIX, (), pairs[:9]), 2, 256), (Diagram(SIX, (), pairs), 4, 256),
                                     (Diagram(SIX, (), pairs), 5, 4096)):
            with self.assertRaises(TooMany) as caught:
                even_world(diagram, size)
            self.assertEqual(caught.exception.limit, limit)

    def test_errors(self):
        sizes = (1, 17, 0, -2, True, None, "2", (2,), [], {}, TOO_LONG, FORK)
        check_errors(self, even_world, (Diagram(SIX), 2), {0: (InvalidDiagram, NO_DIAGRAMS), 1: (InvalidNumber, sizes)})
        for size in sizes:
            for diagram in (FORK, Diagram(SIX, (), tuple(itertools.combinations(SIX, 2)))):
                with self.assertRaises(InvalidNumber) as caught:
                    even_world(diagram, size)
                self.assertIs(caught.exception.given, size)


if __name__ == "__main__":
    unittest.main()
