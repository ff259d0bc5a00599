"""Stage 2: diagrams and trails."""
import itertools
import unittest

from seenanddone.errors import InvalidDiagram, InvalidLot, InvalidOperation, UnknownName
from seenanddone.web.diagrams import MAX_THINGS, Diagram
from seenanddone.web.trails import is_open, is_trail, is_way, meeting
from seenanddone.world.worlds import even_world
from tests.helper import (
    BACK, BOW, DIAMOND, FORK, FRONT, MEET, NO_DIAGRAMS, NO_LOTS, NO_THINGS, ODDER, TOO_LONG, all_diagrams, check_errors,
    has_ring, lots_within, plain_ahead, plain_meets, plain_open, plain_trails, small_diagrams, some_diagrams)

SIX = ("a", "b", "c", "d", "e", "f")
FULL = Diagram(SIX, tuple(itertools.combinations(SIX, 2)), tuple(itertools.combinations(SIX, 2)))


def many_diagrams():
    yield from small_diagrams()
    yield from some_diagrams(60, 4, 1)
    yield from some_diagrams(40, 5, 2)
    yield from some_diagrams(30, 6, 3)
    yield FULL


class DiagramTest(unittest.TestCase):
    def test_constant(self):
        self.assertEqual(MAX_THINGS, 6)

    def test_example(self):
        self.assertEqual(
            [FRONT.parents("y"), FRONT.bowed("y"), FRONT.districts, FRONT.order, FRONT.ahead(("y",)),
             FRONT.with_behind(("z",))],
            [("z",), ("x",), (("x", "y"), ("z",)), ("x", "z", "y"), ("x", "z"), ("y", "z")])

    def test_one_thing(self):
        one = Diagram(("a",))
        self.assertEqual((one.things, one.arrows, one.bows, one.ties, one.order, one.districts),
                         (("a",), (), (), (), ("a",), (("a",),)))
        self.assertEqual((one.parents("a"), one.children("a"), one.bowed("a"), one.district("a")), ((), (), (), ("a",)))
        self.assertEqual((one.ahead(("a",)), one.behind(("a",)), one.ahead(()), one.with_ahead(("a",))), ((), (), (), ("a",)))
        self.assertEqual((one.cut(("a",)), one.bare(()), one.part(("a",))), (one, one, one))
        self.assertEqual((list(one), len(one), str(one)), (["a"], 1, "diagram of 1 things, 0 arrows, 0 bows"))

    def test_six_things(self):
        self.assertEqual((FULL.order, FULL.districts, len(FULL)), (SIX, (SIX,), 6))
        self.assertEqual(FULL.ties, tuple(itertools.combinations(SIX, 2)))
        self.assertEqual(FULL.parents("d"), ("a", "b", "c"))
        self.assertEqual(str(FULL), "diagram of 6 things, 15 arrows, 15 bows")

    def test_properties(self):
        for diagram in many_diagrams():
            things, arrows, bows = diagram.things, diagram.arrows, diagram.bows
            self.assertEqual(diagram.ties, tuple(sorted({tuple(sorted(pair)) for pair in arrows + bows})))
            order = []
            while len(order) < len(things):
                order.append(min(t for t in things if t not in order and all(a in order for a, b in arrows if b == t)))
            self.assertEqual(diagram.order, tuple(order))
            joined = {t: {t} for t in things}
            for _ in things:
                for a, b in bows:
                    both = joined[a] | joined[b]
                    for t in both:
                        joined[t] = both | joined[t]
            for t in things:
                self.assertEqual(diagram.district(t), tuple(sorted(joined[t])))
                self.assertEqual(diagram.parents(t), tuple(sorted(a for a, b in arrows if b == t)))
                self.assertEqual(diagram.children(t), tuple(sorted(b for a, b in arrows if a == t)))
                self.assertEqual(diagram.bowed(t), tuple(sorted(
                    {a for a, b in bows if b == t} | {b for a, b in bows if a == t})))
            self.assertEqual(diagram.districts, tuple(sorted({tuple(sorted(lot)) for lot in joined.values()})))

    def test_ahead_and_behind(self):
        for diagram in many_diagrams():
            ahead = {t: plain_ahead(diagram, t) for t in diagram.things}
            for lot in lots_within(diagram.things):
                before = set().union(*(ahead[t] for t in lot))
                after = {t for t in diagram.things if ahead[t] & set(lot)}
                self.assertEqual(diagram.ahead(lot), tuple(sorted(before)))
                self.assertEqual(diagram.behind(lot), tuple(sorted(after)))
                self.assertEqual(diagram.with_ahead(lot), tuple(sorted(before | set(lot))))
                self.assertEqual(diagram.with_behind(lot), tuple(sorted(after | set(lot))))

    def test_cut_bare_part(self):
        for diagram in many_diagrams():
            things, arrows, bows = diagram.things, diagram.arrows, diagram.bows
            for lot in lots_within(things):
                cut, bare = diagram.cut(lot), diagram.bare(lot)
                self.assertEqual(cut, Diagram(
                    things, tuple(p for p in arrows if p[1] not in lot), tuple(p for p in bows if not set(p) & set(lot))))
                self.assertEqual(bare, Diagram(things, tuple(p for p in arrows if p[0] not in lot), bows))
                if lot:
                    self.assertEqual(diagram.part(lot), Diagram(
                        lot, tuple(p for p in arrows if set(p) <= set(lot)), tuple(p for p in bows if set(p) <= set(lot))))
        with self.assertRaises(InvalidLot):
            FORK.part(())

    def test_contains_and_walk(self):
        for thing in FRONT.things:
            self.assertIs(thing in FRONT, True)
        for value in ODDER + NO_THINGS:
            self.assertIs(value in FRONT, False)
        self.assertEqual(list(Diagram(("b", "c"), (("c", "b"),))), ["b", "c"])
        self.assertEqual([len(FORK), len(BOW)], [3, 2])
        self.assertEqual(str(FRONT), "diagram of 3 things, 2 arrows, 1 bows")

    def test_equal(self):
        every = list(all_diagrams(("a", "b", "c")))[:60]
        for one, other in itertools.product(every, every):
            same = (one.things, one.arrows, one.bows) == (other.things, other.arrows, other.bows)
            self.assertIs(one == other, same)
            self.assertIs(one != other, not same)
        self.assertIs(FORK == Diagram(FORK.things, FORK.arrows), True)
        self.assertIs(Diagram(("a", "b")) == Diagram(("a", "c")), False)
        for value in ODDER:
            if not isinstance(value, Diagram):
                self.assertIs(FORK == value, False)
                self.assertIs(value == FORK, False)
                self.assertIs(FORK != value, True)

    def test_operands_of_another_kind(self):
        for call in (lambda: FORK + 1, lambda: FORK < FORK, lambda: FORK[0], lambda: FORK - FORK, lambda: FORK >= 1):
            with self.assertRaises(TypeError):
                call()

    def test_wrong_things(self):
        wrong = [value for value in NO_LOTS if value not in (("q",), ("a", "q"))] + [(), tuple("abcdefg")]
        for value in wrong:
            with self.assertRaises(InvalidDiagram, msg=str(value)[:40]):
                Diagram(value)
            with self.assertRaises(InvalidDiagram):
                Diagram(value, (("a", "a"),), 5)

    def test_wrong_ties(self):
        wrong = [
            None, True, 1, "ab", [], {}, [("a", "b")], (("a", "b"), ("a", "b")), (("b", "c"), ("a", "b")), ("a", "b"), ("ab",),
            (("a",),), (("a", "b", "c"),), (["a", "b"],), (("a", "a"),), (("a", "q"),), (("q", "a"),), (("a", 1),), ((None, "a"),),
            (("a", ("b",)),), ((),), {("a", "b"): 1}, FORK, (FORK,), ((FORK, "a"),), (("a", ["b"]),), (({}, "a"),)]
        for value in wrong:
            with self.assertRaises(InvalidDiagram, msg=str(value)[:40]):
                Diagram(("a", "b", "c"), value)
            with self.assertRaises(InvalidDiagram, msg=str(value)[:40]):
                Diagram(("a", "b", "c"), (), value)
        Diagram(("a", "b", "c"), (("b", "a"), ("c", "a")))
        with self.assertRaises(InvalidDiagram):
            Diagram(("a", "b", "c"), (), (("b", "a"),))
        with self.assertRaises(InvalidDiagram):
            Diagram(("a", "b", "c"), (), (("a", "b"), ("c", "b")))

    def test_rings(self):
        for size in (2, 3, 4):
            things = SIX[:size]
            pairs = [pair for pair in itertools.product(things, things) if pair[0] != pair[1]]
            for many in range(min(len(pairs), 6) + 1):
                for arrows in itertools.islice(itertools.combinations(sorted(pairs), many), 300):
                    if has_ring(things, arrows):
                        with self.assertRaises(InvalidDiagram):
                            Diagram(things, arrows)
                    else:
                        self.assertEqual(Diagram(things, arrows).arrows, arrows)
        ring = tuple(sorted(zip(SIX, SIX[1:] + SIX[:1])))
        with self.assertRaises(InvalidDiagram):
            Diagram(SIX, ring)

    def test_errors_of_methods(self):
        for method in (FORK.parents, FORK.children, FORK.bowed, FORK.district):
            for value in NO_THINGS:
                if value != "a":
                    with self.assertRaises(UnknownName) as caught:
                        method(value)
                    self.assertIs(caught.exception.asked, value)
        for method in (FORK.ahead, FORK.behind, FORK.with_ahead, FORK.with_behind, FORK.cut, FORK.bare, FORK.part):
            check_errors(self, method, (("a",),), {0: (InvalidLot, NO_LOTS)})


class TrailTest(unittest.TestCase):
    def test_trails(self):
        for diagram in many_diagrams():
            things = diagram.things
            if len(things) > 5:
                continue
            for start, end in itertools.permutations(things, 2):
                for trail in itertools.islice(plain_trails(diagram, start, end), 60):
                    self.assertIs(is_trail(diagram, trail), True)
                    self.assertEqual(meeting(diagram, trail), tuple(plain_meets(trail)))
                    for z in lots_within(set(things) - {start, end}):
                        self.assertIs(is_open(diagram, trail, z), plain_open(diagram, trail, z))

    def test_all_rows_of_three(self):
        for diagram in (FRONT, BOW, MEET, Diagram(("a", "b", "c"), (("a", "b"), ("b", "c")), (("a", "b"), ("a", "c")))):
            every = {t for a, b in itertools.permutations(diagram.things, 2) for t in plain_trails(diagram, a, b)}
            for size in range(1, 4):
                for row in itertools.product(diagram.things, repeat=size):
                    for joints in itertools.product(("<", ">", "-"), repeat=size - 1):
                        value = tuple(itertools.chain(*zip(row, joints))) + row[-1:]
                        self.assertIs(is_trail(diagram, value), value in every, value)

    def test_each_joint(self):
        both = Diagram(("a", "b"), (("a", "b"),), (("a", "b"),))
        for value in (("a", ">", "b"), ("b", "<", "a"), ("a", "-", "b"), ("b", "-", "a")):
            self.assertIs(is_trail(both, value), True)
        for value in (("a", "<", "b"), ("b", ">", "a"), ("a", "b"), ("a",), (), ("a", ">"), ("a", ">", "a"), ("a", "--", "b"),
                      ("a", "", "b"), ("a", None, "b"), ("a", ">", "b", "<", "a"), ["a", ">", "b"], ("a", ">", ("b",)), "a>b",
                      ("a", [">"], "b"), (["a"], ">", "b"), ("a", ">", "b", ">"), ("a", ">", "q"), ({}, {}, {}), (1, ">", 2)):
            self.assertIs(is_trail(both, value), False, value)
        self.assertIs(is_trail(DIAMOND, ("b", "<", "a", ">", "c", ">", "d", "<", "b")), False)

    def test_meeting_and_open(self):
        chain = Diagram(("a", "b", "c", "d"), (("a", "b"), ("b", "d"), ("c", "b")))
        trail = ("a", ">", "b", "<", "c")
        self.assertEqual(meeting(chain, trail), ("b",))
        self.assertEqual([is_open(chain, trail, z) for z in ((), ("b",), ("d",), ("b", "d"))], [False, True, True, True])
        row = Diagram(("a", "b", "c", "d"), (("c", "d"),), (("a", "b"), ("b", "c")))
        trail = ("a", "-", "b", "-", "c", ">", "d")
        self.assertEqual(meeting(row, trail), ("b",))
        self.assertEqual([is_open(row, trail, z) for z in ((), ("b",), ("c",), ("b", "c"))], [False, True, False, False])
        trail = ("a", "<", "b", ">", "c")
        self.assertEqual([is_open(FORK, trail, z) for z in ((), ("b",))], [True, False])
        self.assertEqual(meeting(BOW, ("x", "-", "y")), ())
        inner = Diagram(("a", "b", "c", "d"), (), (("a", "d"), ("b", "c"), ("b", "d")))
        self.assertEqual(meeting(inner, ("a", "-", "d", "-", "b", "-", "c")), ("d", "b"))

    def test_values(self):
        for value in ODDER + (("a",), ("a", ">", "b", 1, 2)):
            self.assertIs(is_trail(FORK, value), False)
            self.assertIs(is_way(Diagram(("n",)), value), False)

    def test_ways(self):
        for diagram in (DIAMOND, FRONT, BACK, Diagram(("a", "b", "c"), (("a", "b"), ("a", "c"), ("b", "c")), (("a", "b"),))):
            for size in range(4):
                for row in itertools.product(diagram.things, repeat=size):
                    good = size > 0 and all(pair in diagram.arrows for pair in zip(row, row[1:]))
                    self.assertIs(is_way(diagram, row), good)
                    self.assertIs(is_way(diagram, list(row)), False)
        for value in ("a", ("a", "q"), ("q",), (["a"],), ("a", ("b",)), (None,), {"a": 1}, ("a", ">", "b")):
            self.assertIs(is_way(DIAMOND, value), False)

    def test_errors(self):
        trail = ("a", "<", "b", ">", "c")
        no_trails = ODDER + (("a", ">", "b"), list(trail), ("a", "c"), ("a",), trail + ("-", "a"))
        ends = NO_LOTS + (("a",), ("c",), ("a", "b"), ("b", "c"))
        check_errors(self, is_trail, (FORK, trail), {0: (InvalidDiagram, NO_DIAGRAMS)})
        check_errors(self, is_way, (FORK, ("a",)), {0: (InvalidDiagram, NO_DIAGRAMS)})
        check_errors(self, meeting, (FORK, trail), {0: (InvalidDiagram, NO_DIAGRAMS), 1: (InvalidOperation, no_trails)})
        check_errors(self, is_open, (FORK, trail, ("b",)), {
            0: (InvalidDiagram, NO_DIAGRAMS), 1: (InvalidOperation, no_trails), 2: (InvalidLot, ends)})
        self.assertIs(is_open(FORK, trail, ()), True)
        with self.assertRaises(InvalidDiagram):
            is_trail(even_world(FORK), TOO_LONG)


if __name__ == "__main__":
    unittest.main()
