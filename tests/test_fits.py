"""Stage 7: tables that fit diagrams without bows."""
import itertools
import math
import random
import unittest
from fractions import Fraction

from seenanddone.bars.barred import is_barred
from seenanddone.errors import InvalidDiagram, InvalidOperation, InvalidTable, Refused, TooMany
from seenanddone.web.diagrams import Diagram
from seenanddone.world.fits import does_fit, fitting_world, is_least_diagram, is_misfit, least_diagram, misfit
from seenanddone.world.tables import Table
from seenanddone.world.worlds import even_world
from tests.helper import (
    BOW, FORK, FRONT, MEET, NO_DIAGRAMS, ODDER, all_sayings, as_fractions, bowless_diagrams, check_errors, check_judge,
    plain_ahead, plain_sums, rows_of, some_diagrams, some_table, some_world)

NO_TABLES = tuple(value for value in ODDER if not isinstance(value, Table))
BITS = {"a": 2, "b": 2, "c": 2}


def plain_rest(diagram, thing):
    """All things that are neither a thing nor behind it."""
    return tuple(t for t in diagram.things if t != thing and thing not in plain_ahead(diagram, t))


def plain_misfits(table, diagram):
    """Every misfit, by a look at all pairs of rows."""
    shares, sizes = as_fractions(table), table.sizes
    found = []
    for thing in diagram.things:
        rest = plain_rest(diagram, thing)
        parents = [rest.index(a) for a, b in diagram.arrows if b == thing]
        ahead = plain_sums(shares, diagram.things, rest)
        both = plain_sums(shares, diagram.things, rest + (thing,))
        for one, other in itertools.product(ahead, repeat=2):
            if not ahead[one] or not ahead[other] or any(one[spot] != other[spot] for spot in parents):
                continue
            if any(both[one + (v,)] / ahead[one] != both[other + (v,)] / ahead[other] for v in range(sizes[thing])):
                found.append((thing, one, other))
    return found


def plain_product(table, diagram):
    """Whether each share is the product of [7.2]."""
    shares = as_fractions(table)
    product = {row: Fraction(1) for row in shares}
    for thing in diagram.things:
        parents = tuple(a for a, b in diagram.arrows if b == thing)
        ahead = plain_sums(shares, diagram.things, parents)
        both = plain_sums(shares, diagram.things, parents + (thing,))
        for row in product:
            at = tuple(row[diagram.things.index(t)] for t in parents + (thing,))
            product[row] *= both[at] / ahead[at[:-1]] if ahead[at[:-1]] else 0
    return product == shares


def plain_bottom(table, diagram):
    """The greatest common multiple of the bottoms that the table of a thing needs."""
    found = [1]
    for thing in diagram.things:
        parents = tuple(a for a, b in diagram.arrows if b == thing)
        ahead = plain_sums(as_fractions(table), diagram.things, parents)
        both = plain_sums(as_fractions(table), diagram.things, parents + (thing,))
        found.append(math.lcm(*[(both[row] / ahead[row[:-1]]).denominator for row in both if ahead[row[:-1]]]))
    return max(found)


def sparse_table(seed, sizes, draw):
    """A table with many shares of 0."""
    rows = rows_of([sizes[thing] for thing in sorted(sizes)])
    chosen = draw.sample(rows, draw.randint(1, max(1, len(rows) // 2)))
    return Table(sizes, {row: (1, len(chosen)) if row in chosen else (0, 1) for row in rows})


def cases():
    """Pairs of a table and a diagram with its things."""
    draw = random.Random(4)
    diagrams = list(bowless_diagrams(("a", "b", "c")))
    for seed, diagram in enumerate(diagrams):
        yield some_world(diagram, seed).seen, diagram
        yield some_world(draw.choice(diagrams), seed).seen, diagram
        yield some_table(seed, {"a": 3, "b": 2, "c": 2}, 1, 2), diagram
        for _ in range(4):
            yield sparse_table(seed, BITS, draw), diagram
    for seed, diagram in enumerate(some_diagrams(20, 4, 5, 0.5, 0)):
        yield some_world(diagram, seed, (2,)).seen, diagram
        yield sparse_table(seed, dict.fromkeys("abcd", 2), draw), diagram
    for diagram in bowless_diagrams(("a",)):
        yield some_table(3, {"a": 4}), diagram


class FitTest(unittest.TestCase):
    def test_against_all_rows(self):
        told = set()
        for table, diagram in cases():
            misfits = plain_misfits(table, diagram)
            fits = not misfits
            told.add((fits, table.full))
            self.assertIs(does_fit(table, diagram), fits)
            self.assertIs(plain_product(table, diagram), fits)
            found = misfit(table, diagram)
            self.assertIs(found is None, fits)
            self.assertIs(is_misfit(table, diagram, found), not fits)
            if found is not None:
                self.assertIn(found, misfits)
            if fits and plain_bottom(table, diagram) > 1000000:
                with self.assertRaises(TooMany):
                    fitting_world(table, diagram)
                continue
            world = fitting_world(table, diagram)
            self.assertIs(world is None, not fits)
            if world is not None:
                self.assertEqual(world.seen, table)
                self.assertEqual(world.diagram, diagram)
        self.assertEqual(told, {(True, True), (True, False), (False, True), (False, False)})

    def test_is_misfit_of_all_triples(self):
        for seed, diagram in enumerate(list(bowless_diagrams(("a", "b", "c")))[::3]):
            for table in (some_table(seed, BITS, 0, 2), some_world(diagram, seed, (2,)).seen):
                misfits = plain_misfits(table, diagram)
                for thing in diagram.things:
                    rows = rows_of([2] * len(plain_rest(diagram, thing)))
                    for one, other in itertools.product(rows, repeat=2):
                        value = (thing, one, other)
                        self.assertIs(is_misfit(table, diagram, value), value in misfits)

    def test_values_that_are_no_misfit(self):
        table = Table(BITS, {row: (1, 4) if sum(row) % 2 == 0 else (0, 1) for row in rows_of([2, 2, 2])})
        none = Diagram(("a", "b", "c"))
        self.assertIs(is_misfit(table, none, ("a", (0, 0), (0, 1))), True)
        self.assertIs(is_misfit(table, none, ("a", (0, 1), (0, 0))), True)
        check_judge(self, lambda value: is_misfit(table, none, value), [misfit(table, none)], [
            ("a", (0, 0), (1, 1)), ("a", (0, 0), (0, 0)), ("a", (0, 0), (0, True)), ("a", (False, 0), (0, 1)), ("a", [0, 0], (0, 1)),
            ["a", (0, 0), (0, 1)], ("a", (0, 0)), ("a", (0, 0), (0, 1), 0), ("q", (0, 0), (0, 1)), (None, (0, 0), (0, 1)),
            ("a", (0, 0), (0, 2)), ("a", (0, 0), (0, -1)), ("a", (0, 0, 0), (0, 0, 1)), ("a", (0,), (1,)), (["a"], (0, 0), (0, 1))])
        # Each two things are free of each other, but not all three.
        self.assertTrue(all(table.is_free((a,), (b,), ()) for a, b in itertools.combinations("abc", 2)))
        self.assertIs(does_fit(table, none), False)

    def test_sayings_are_free_where_it_fits(self):
        for table, diagram in cases():
            if does_fit(table, diagram):
                for x, y, z in list(all_sayings(diagram.things))[::5]:
                    if is_barred(diagram, x, y, z):
                        self.assertIs(table.is_free(x, y, z), True)

    def test_rows_of_parents_without_a_share(self):
        table = Table({"a": 3, "b": 2}, {(a, b): (1, 2) if (a, b) in ((0, 1), (2, 0)) else (0, 1) for a, b in rows_of([3, 2])})
        diagram = Diagram(("a", "b"), (("a", "b"),))
        self.assertIs(does_fit(table, diagram), True)
        self.assertEqual(fitting_world(table, diagram).seen, table)
        self.assertIs(does_fit(table, Diagram(("a", "b"))), False)

    def test_bound_on_bottoms(self):
        one = Diagram(("a",))
        for bottom, is_let in ((1000000, True), (1000001, False), (10 ** 900, False)):
            table = Table({"a": 2}, {(0,): (1, bottom), (1,): (bottom - 1, bottom)})
            self.assertIs(does_fit(table, one), True)
            if is_let:
                self.assertEqual(fitting_world(table, one).seen, table)
            else:
                with self.assertRaises(TooMany) as caught:
                    fitting_world(table, one)
                self.assertEqual(caught.exception.limit, 1000000)
        # Two rows of one table with bottoms that have a great common multiple.
        two = Diagram(("a", "b"), (("a", "b"),))
        table = Table({"a": 2, "b": 2}, {(0, 0): (1, 2002), (0, 1): (500, 1001), (1, 0): (1, 2018), (1, 1): (504, 1009)})
        with self.assertRaises(TooMany):
            fitting_world(table, two)
        # What does not fit has no world, whatever the bottoms are.
        self.assertIsNone(fitting_world(table, Diagram(("a", "b"))))

    def test_errors(self):
        table = some_table(1, BITS)
        for call in (does_fit, misfit, fitting_world):
            check_errors(self, call, (table, FORK), {0: (InvalidTable, NO_TABLES), 1: (InvalidDiagram, NO_DIAGRAMS)})
        check_errors(self, is_misfit, (table, FORK, None), {0: (InvalidTable, NO_TABLES), 1: (InvalidDiagram, NO_DIAGRAMS)})
        calls = (does_fit, misfit, fitting_world, lambda *args: is_misfit(*args, None))
        bowed = Diagram(("a", "b", "c"), (), (("a", "b"),))
        for call in calls:
            for other in (BOW, Diagram(("a", "b")), FRONT):
                with self.assertRaises(InvalidOperation):
                    call(table, other)
            with self.assertRaises(Refused) as caught:
                call(table, bowed)
            self.assertEqual(caught.exception.reason, ("bows",))


class LeastTest(unittest.TestCase):
    def plain_least(self, table, order):
        arrows = []
        for at, b in enumerate(order):
            for a in order[:at]:
                if not table.is_free((a,), (b,), tuple(sorted(set(order[:at]) - {a}))):
                    arrows.append((a, b))
        return Diagram(table.things, tuple(sorted(arrows)))

    def test_all_orders(self):
        tables = [some_table(1, BITS)] + [some_world(d, 2, (2,)).seen for d in bowless_diagrams(("a", "b", "c"))]
        for table in tables:
            for order in itertools.permutations(table.things):
                least = least_diagram(table, order)
                self.assertEqual(least, self.plain_least(table, order))
                self.assertIs(is_least_diagram(table, order, least), True)
                self.assertIs(does_fit(table, least), True)
                for diagram in bowless_diagrams(table.things):
                    if all(order.index(a) < order.index(b) for a, b in diagram.arrows):
                        self.assertIs(does_fit(table, diagram), set(least.arrows) <= set(diagram.arrows))
                        self.assertIs(is_least_diagram(table, order, diagram), diagram == least)

    def test_four_things(self):
        for seed, diagram in enumerate(some_diagrams(12, 4, 8, 0.4, 0)):
            table = some_world(diagram, seed, (2,)).seen
            for order in list(itertools.permutations(table.things))[seed::6]:
                least = least_diagram(table, order)
                self.assertIs(does_fit(table, least), True)
                for arrow in least.arrows:
                    less = Diagram(least.things, tuple(pair for pair in least.arrows if pair != arrow))
                    self.assertIs(does_fit(table, less), False)
                if all(order.index(a) < order.index(b) for a, b in diagram.arrows):
                    self.assertLessEqual(set(least.arrows), set(diagram.arrows))
                for x, y, z in list(all_sayings(least.things))[::7]:
                    if is_barred(least, x, y, z):
                        self.assertIs(table.is_free(x, y, z), True)

    def test_orders_with_unlike_numbers_of_arrows(self):
        table = some_world(MEET, 3, (2,)).seen
        self.assertEqual(least_diagram(table, ("a", "c", "b")), MEET)
        self.assertEqual(len(least_diagram(table, ("b", "a", "c")).arrows), 3)

    def test_judge_and_errors(self):
        table = some_table(1, BITS)
        order = ("c", "a", "b")
        least = least_diagram(table, order)
        check_judge(self, lambda value: is_least_diagram(table, order, value), [least], [
            FORK, MEET, Diagram(("a", "b")), Diagram(least.things, least.arrows, (("a", "b"),)), (least,), least.arrows])
        no_orders = (None, True, 1, "abc", ["c", "a", "b"], (), ("a", "b"), ("a", "b", "c", "c"), ("a", "b", "b"), ("a", "b", "q"),
                     ("a", "b", 1), ("a", "b", ("c",)), {"a": 1}, {}, FORK)
        check_errors(self, least_diagram, (table, order), {0: (InvalidTable, NO_TABLES), 1: (InvalidOperation, no_orders)})
        check_errors(self, is_least_diagram, (table, order, None), {
            0: (InvalidTable, NO_TABLES), 1: (InvalidOperation, no_orders)})
        bare = Table(BITS, {row: (1, 4) if sum(row) % 2 == 0 else (0, 1) for row in rows_of([2, 2, 2])})
        for call in (least_diagram, lambda *args: is_least_diagram(*args, None)):
            with self.assertRaises(Refused) as caught:
                call(bare, order)
            self.assertEqual(caught.exception.reason, ("zero",))
            with self.assertRaises(InvalidOperation):
                call(bare, ("a",))
        self.assertIs(even_world(Diagram(("a",))).seen == some_table(1, {"a": 2}), False)
        self.assertEqual(least_diagram(even_world(FORK).seen, order), Diagram(("a", "b", "c")))


if __name__ == "__main__":
    unittest.main()
