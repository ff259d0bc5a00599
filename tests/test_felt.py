"""Stage 4: worlds of sums, and worlds in which what is not barred is felt."""
import itertools
import unittest
from fractions import Fraction

from seenanddone.bars.barred import bar_cut, is_barred, open_trail
from seenanddone.bars.felt import felt_world, is_felt, joints_of, sum_world
from seenanddone.errors import InvalidDiagram, InvalidLot, InvalidOperation, TooMany
from seenanddone.web.diagrams import Diagram
from seenanddone.world.worlds import World, even_world
from tests.helper import (
    BACK, BOW, DIAMOND, FORK, FRONT, MEET, NO_DIAGRAMS, NO_LOTS, ODDER, all_sayings, check_errors, rows_of, small_diagrams,
    some_diagrams, some_sayings, some_world)
from tests.test_barred import plain_open_trails

SIX = ("a", "b", "c", "d", "e", "f")
BOWED = Diagram(SIX, (), tuple(itertools.combinations(SIX, 2)))
BIND = Diagram(("a", "b", "c"), (("b", "c"),), (("a", "b"), ("b", "c")))


def parts_of(pairs):
    return [part for size in range(len(pairs) + 1) for part in itertools.combinations(pairs, size)]


def plain_sum_world(diagram, arrows, bows, uneven):
    """The parts of the world that [4.4] tells."""
    def source(spot):
        return ((3, 4), (1, 4)) if spot == uneven else ((1, 2), (1, 2))
    fed = {b for _, b in arrows} | {thing for bow in bows for thing in bow}
    hidden = {bow: source(bow) if bow in bows else ((1, 1),) for bow in diagram.bows}
    tables = {}
    for thing in diagram.things:
        reads = [pair in arrows for pair in diagram.arrows if pair[1] == thing]
        counts = [2] * len(reads)
        for bow in diagram.bows:
            if thing in bow:
                reads.append(bow in bows)
                counts.append(len(hidden[bow]))
        tables[thing] = {}
        for row in rows_of(counts):
            odd = sum(value for value, heeded in zip(row, reads) if heeded) % 2
            noisy = ((1, 4), (3, 4)) if odd else ((3, 4), (1, 4))
            tables[thing][row] = noisy if thing in fed else source(thing)
    return {thing: 2 for thing in diagram.things}, hidden, tables


class SumWorldTest(unittest.TestCase):
    def test_all_small_sums(self):
        for diagram in list(small_diagrams())[::6] + [FRONT, BOW, BIND, DIAMOND]:
            for arrows in parts_of(diagram.arrows):
                for bows in parts_of(diagram.bows):
                    fed = {b for _, b in arrows} | {thing for bow in bows for thing in bow}
                    free = tuple(thing for thing in diagram.things if thing not in fed)
                    for uneven in (None,) + free[:1] + bows[-1:]:
                        world = sum_world(diagram, arrows, bows, uneven=uneven)
                        self.assertEqual(world, World(diagram, *plain_sum_world(diagram, arrows, bows, uneven)))
                        self.assertIs(world.full, True)
                    self.assertEqual(sum_world(diagram, arrows, bows), sum_world(diagram, arrows, bows, uneven=None))

    def test_arrows_and_bows_alike(self):
        both = Diagram(("a", "b"), (("a", "b"),), (("a", "b"),))
        for arrows, bows in itertools.product(((), both.arrows), ((), both.bows)):
            self.assertEqual(sum_world(both, arrows, bows), World(both, *plain_sum_world(both, arrows, bows, None)))

    def test_many_bows(self):
        world = sum_world(BOWED, (), BOWED.bows[:8])
        self.assertEqual(world.seen.share({}), (1, 1))
        self.assertEqual(sorted(map(len, world.hidden.values())), [1] * 7 + [2] * 8)
        for many in (9, 15):
            with self.assertRaises(TooMany) as caught:
                sum_world(BOWED, (), BOWED.bows[:many])
            self.assertEqual(caught.exception.limit, 256)
        with self.assertRaises(InvalidOperation):
            sum_world(BOWED, (), BOWED.bows, uneven="a")

    def test_errors(self):
        pairs = (None, True, 0, "ab", "", [], {}, [("a", "b")], (("a", "b"), ("a", "b")), (("c", "d"), ("a", "b")), ("a", "b"),
                 (("a", "q"),), (("a",),), (["a", "b"],), (("a", "d"),), (("b", "a"),), (("b", "c"),), (None,), FORK, (FORK,))
        loose = ("q", "b", ("a", "b"), ("a", "d"), ("x", "y"), ["a"], [], {}, 0, 1, True, False, (), "", FORK)
        diagram = Diagram(("a", "b", "c", "d"), (("a", "b"), ("c", "d")), (("a", "b"), ("c", "d")))
        check_errors(self, sum_world, (diagram, (("a", "b"),), ()), {
            0: (InvalidDiagram, NO_DIAGRAMS), 1: (InvalidOperation, pairs), 2: (InvalidOperation, pairs),
            "uneven": (InvalidOperation, loose)}, {"uneven": None})
        for uneven in ("a", "b", ("c", "d"), "q"):
            with self.assertRaises(InvalidOperation):
                sum_world(diagram, (), (("a", "b"),), uneven=uneven)
        for uneven in (None, "c", "d", ("a", "b")):
            sum_world(diagram, (), (("a", "b"),), uneven=uneven)
        with self.assertRaises(TypeError):
            sum_world(diagram, (), (), "a")


class JointsTest(unittest.TestCase):
    def test_joints(self):
        diagram = Diagram(("a", "b", "c", "d"), (("a", "b"), ("b", "d"), ("c", "d")), (("b", "c"), ("c", "d")))
        self.assertEqual(joints_of(diagram, ("a", ">", "b"), {}), ((("a", "b"),), ()))
        self.assertEqual(joints_of(diagram, ("b", "<", "a"), {}), ((("a", "b"),), ()))
        self.assertEqual(joints_of(diagram, ("c", "-", "b"), {}), ((), (("b", "c"),)))
        trail = ("a", ">", "b", "-", "c", "-", "d")
        self.assertEqual(joints_of(diagram, trail, {}), ((("a", "b"),), (("b", "c"), ("c", "d"))))
        self.assertEqual(joints_of(diagram, trail, {"b": ("b", "d"), "c": ("c",)}),
                         ((("a", "b"), ("b", "d")), (("b", "c"), ("c", "d"))))
        self.assertEqual(joints_of(diagram, trail, {"c": ("c", "d"), "b": ("b", "d")}),
                         ((("a", "b"), ("b", "d"), ("c", "d")), (("b", "c"), ("c", "d"))))
        met = ("a", ">", "b", "-", "c", ">", "d")
        self.assertEqual(joints_of(diagram, met, {"b": ("b", "d")}), ((("a", "b"), ("b", "d"), ("c", "d")), (("b", "c"),)))

    def test_long_ways(self):
        diagram = Diagram(("a", "b", "c", "d", "e", "f"), (
            ("a", "b"), ("b", "d"), ("c", "b"), ("d", "e"), ("e", "f")), (("a", "c"),))
        trail = ("a", ">", "b", "<", "c")
        for size in (1, 2, 3, 4):
            way = ("b", "d", "e", "f")[:size]
            arrows = tuple(sorted({("a", "b"), ("c", "b")} | set(zip(way, way[1:]))))
            self.assertEqual(joints_of(diagram, trail, {"b": way}), (arrows, ()))

    def test_errors(self):
        diagram = Diagram(("a", "b", "c", "d"), (("a", "b"), ("b", "d"), ("c", "b")))
        trail = ("a", ">", "b", "<", "c")
        no_ways = (None, True, 1, "b", (), [], ("b", "d"), [("b", ("b",))], {"a": ("a", "b")}, {"c": ("c",)}, {"q": ("q",)},
                   {"b": ("d",)}, {"b": ("a", "b")}, {"b": ("b", "c")}, {"b": ()}, {"b": ["b"]}, {"b": "b"}, {"b": None}, FORK,
                   {"b": ("b",), "a": ("a",)}, {("b",): ("b",)}, {0: ("b",)}, {None: ()}, {"b": ("b", "q")}, {"b": FORK})
        check_errors(self, joints_of, (diagram, trail, {"b": ("b", "d")}), {
            0: (InvalidDiagram, NO_DIAGRAMS), 1: (InvalidOperation, ODDER + (("a", "<", "b"), list(trail))),
            2: (InvalidOperation, no_ways)})


class ShareTest(unittest.TestCase):
    def check_share(self, diagram, x, y, z, trail, ways):
        """[4.5] for one open trail."""
        arrows, bows = joints_of(diagram, trail, ways)
        world = sum_world(diagram, arrows, bows)
        many = len({b for _, b in arrows} | {thing for bow in bows for thing in bow})
        expected = Fraction(1, 2) + Fraction(1, 2) ** (many + 1)
        first, last = trail[0], trail[-1]
        asked = tuple(sorted(set(z) | {first}))
        for row in rows_of([2] * len(asked)):
            seen = dict(zip(asked, row))
            told = (seen[first] + sum(seen[way[-1]] for way in ways.values())) % 2
            self.assertEqual(Fraction(*world.seen.share_given({last: told}, seen)), expected)

    def test_share(self):
        for diagram in list(small_diagrams()) + [BIND, DIAMOND]:
            for x, y, z in all_sayings(diagram.things):
                for trail, ways in plain_open_trails(diagram, x, y, z):
                    self.check_share(diagram, x, y, z, trail, ways)

    def test_share_of_four_and_five(self):
        for size, many in ((4, 30), (5, 10)):
            for seed, diagram in enumerate(some_diagrams(many, size, 40 + size, 0.5, 0.25)):
                for x, y, z in some_sayings(diagram.things, 12, seed):
                    for trail, ways in plain_open_trails(diagram, x, y, z, 2):
                        self.check_share(diagram, x, y, z, trail, ways)


class FeltTest(unittest.TestCase):
    def test_bar_cut_or_felt_world(self):
        told = set()
        cases = [(diagram, list(all_sayings(diagram.things))) for diagram in list(small_diagrams())[::2]]
        cases += [(diagram, some_sayings(diagram.things, 12, seed)) for seed, diagram in enumerate(some_diagrams(25, 4, 9))]
        cases += [(diagram, some_sayings(diagram.things, 6, seed)) for seed, diagram in enumerate(some_diagrams(8, 5, 9))]
        for diagram, sayings in cases:
            for x, y, z in sayings:
                world = felt_world(diagram, x, y, z)
                barred = is_barred(diagram, x, y, z)
                told.add(barred)
                self.assertIs(world is None, barred)
                self.assertIs(bar_cut(diagram, x, y, z) is not None, barred)
                self.assertIs(is_felt(diagram, x, y, z, world), not barred)
                if world is not None:
                    self.assertEqual(world.diagram, diagram)
                    self.assertIs(world.full, True)
                    self.assertIs(world.seen.is_free(x, y, z), False)
                    self.assertEqual(world, felt_world(diagram, x, y, z))
        self.assertEqual(told, {True, False})

    def test_barred_things_are_free(self):
        """[4.6] in worlds with any shares."""
        for seed, diagram in enumerate(list(small_diagrams())[::5] + list(some_diagrams(12, 4, 13, bow=0.2))):
            world = some_world(diagram, seed, (2, 3), (2, 3) if len(diagram.bows) < 4 else (1, 2))
            for x, y, z in some_sayings(diagram.things, 15, seed):
                if is_barred(diagram, x, y, z):
                    self.assertIs(world.seen.is_free(x, y, z), True)
                    self.assertIs(is_felt(diagram, x, y, z, world), False)
                else:
                    self.assertIs(is_felt(diagram, x, y, z, world), not world.seen.is_free(x, y, z))

    def test_is_felt_of_other_worlds(self):
        x, y = ("a",), ("c",)
        world = felt_world(FORK, x, y, ())
        self.assertIs(is_felt(FORK, x, y, (), world), True)
        self.assertIs(is_felt(FORK, x, y, ("b",), world), False)
        self.assertIs(is_felt(FORK, x, y, (), even_world(FORK)), False)
        # The same seen table in a world of another diagram.
        more = Diagram(FORK.things, FORK.arrows, (("a", "b"),))
        moved = sum_world(more, FORK.arrows, ())
        self.assertEqual(moved.seen, world.seen)
        self.assertIs(is_felt(FORK, x, y, (), moved), False)
        self.assertIs(is_felt(more, x, y, (), moved), True)
        self.assertIs(is_felt(MEET, x, y, (), felt_world(MEET, x, ("b",), ())), False)
        # A world that is not full.
        sure = {value: tuple((1, 1) if other == value else (0, 1) for other in (0, 1)) for value in (0, 1)}
        bare = World(FORK, {"a": 2, "b": 2, "c": 2}, {}, {
            "a": {(value,): sure[value] for value in (0, 1)}, "b": {(): ((1, 2), (1, 2))},
            "c": {(value,): sure[value] for value in (0, 1)}})
        self.assertIs(bare.seen.is_free(x, y, ()), False)
        self.assertIs(is_felt(FORK, x, y, (), bare), False)
        # Worlds that are felt need not be sums.
        self.assertIs(is_felt(FORK, x, y, (), some_world(FORK, 5)), True)
        for value in ODDER + (world.seen, (world,), [world], open_trail(FORK, x, y, ())):
            self.assertIs(is_felt(FORK, x, y, (), value), False)

    def test_errors(self):
        lots = {0: (InvalidDiagram, NO_DIAGRAMS), 1: (InvalidLot, NO_LOTS + ((),)), 2: (InvalidLot, NO_LOTS + ((),)),
                3: (InvalidLot, NO_LOTS)}
        check_errors(self, felt_world, (FORK, ("a",), ("c",), ()), lots)
        for value in (None, even_world(FORK)):
            check_errors(self, is_felt, (FORK, ("a",), ("c",), (), value), lots)
        for x, y, z in ((("a",), ("a",), ()), (("a",), ("b",), ("a",)), (("a",), ("b",), ("b",))):
            for call in (lambda: felt_world(FORK, x, y, z), lambda: is_felt(FORK, x, y, z, None)):
                with self.assertRaises(InvalidLot):
                    call()
        self.assertIs(is_felt(BACK, ("x",), ("y",), ("u",), felt_world(BACK, ("x",), ("y",), ("u",))), True)


if __name__ == "__main__":
    unittest.main()
