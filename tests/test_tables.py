"""Stage 3: tables."""
import itertools
import random
import unittest
from fractions import Fraction

from seenanddone.errors import InvalidDeed, InvalidLot, InvalidTable
from seenanddone.world.tables import MAX_ROWS, MAX_VALUES, Table
from seenanddone.world.worlds import even_world
from tests.helper import FORK, NO_LOTS, ODD, ODDER, TOO_LONG, all_sayings, lots_within, lowest, rows_of, some_shares

EVEN = {row: (1, 4) for row in rows_of((2, 2))}
SIZES = {"a": 2, "b": 2}


def some_table(seed, counts, zeros=0):
    """A table of the things a, b, .., with some shares of 0."""
    draw = random.Random(seed)
    rows = rows_of(counts)
    tops = [0 if draw.random() < zeros else draw.randint(1, 9) for _ in rows]
    tops[draw.randrange(len(rows))] += 3
    shares = {row: lowest(top, sum(tops)) for row, top in zip(rows, tops)}
    return Table(dict(zip("abcdef", counts)), shares)


def some_tables():
    for seed in range(6):
        for counts in ((2,), (3, 2), (2, 3, 2), (2, 2, 2, 2)):
            yield some_table(seed, counts, (0, 0.4)[seed % 2])


def value_of(table, event):
    places = {thing: place for place, thing in enumerate(table.things)}
    return sum((Fraction(*share) for row, share in table.shares.items()
                if all(row[places[thing]] == value for thing, value in event.items())), Fraction(0))


def pair(value):
    return (value.numerator, value.denominator)


class TableTest(unittest.TestCase):
    def test_constants(self):
        self.assertEqual((MAX_VALUES, MAX_ROWS), (16, 4096))

    def test_properties(self):
        table = Table({"b": 3, "a": 2}, {row: (1, 6) for row in reversed(rows_of((2, 3)))})
        self.assertEqual(table.things, ("a", "b"))
        self.assertEqual(list(table.sizes.items()), [("a", 2), ("b", 3)])
        self.assertEqual(list(table.shares.items()), [(row, (1, 6)) for row in rows_of((2, 3))])
        self.assertEqual((table.full, len(table), str(table)), (True, 6, "table of 2 things, 6 rows"))
        for table in some_tables():
            self.assertIs(table.full, all(share != (0, 1) for share in table.shares.values()))
            self.assertEqual(list(table.shares), rows_of(table.sizes.values()))
            self.assertEqual(Table(table.sizes, table.shares), table)
        self.assertIs(Table({"a": 2}, {(0,): (0, 1), (1,): (1, 1)}).full, False)

    def test_nothing_is_shared(self):
        sizes, shares = dict(SIZES), dict(EVEN)
        table = Table(sizes, shares)
        twin = Table(SIZES, EVEN)
        sizes["a"] = 5
        shares[0, 0] = (1, 1)
        table.sizes["a"] = 7
        table.shares[0, 0] = (0, 1)
        table.shares.clear()
        self.assertEqual(table, twin)
        self.assertEqual((table.sizes, table.shares), (SIZES, EVEN))
        self.assertEqual((sizes, shares[0, 0]), ({"a": 5, "b": 2}, (1, 1)))

    def test_share(self):
        for table in some_tables():
            for lot in lots_within(table.things):
                for row in rows_of([table.sizes[thing] for thing in lot]):
                    event = dict(zip(lot, row))
                    self.assertEqual(table.share(event), pair(value_of(table, event)))
            self.assertEqual(table.share({}), (1, 1))

    def test_share_given(self):
        for table in list(some_tables())[:16]:
            for one in lots_within(table.things):
                for other in lots_within(set(table.things) - set(one)):
                    for row in rows_of([table.sizes[thing] for thing in one + other]):
                        event, seen = dict(zip(one, row)), dict(zip(other, row[len(one):]))
                        whole = value_of(table, seen)
                        told = pair(value_of(table, {**event, **seen}) / whole) if whole else None
                        self.assertEqual(table.share_given(event, seen), told)
        never = Table({"a": 2, "b": 2}, {(0, 0): (1, 2), (0, 1): (1, 2), (1, 0): (0, 1), (1, 1): (0, 1)})
        self.assertIsNone(never.share_given({"b": 0}, {"a": 1}))
        self.assertIsNone(never.share_given({}, {"a": 1}))
        self.assertEqual(never.share_given({"a": 1}, {"b": 1}), (0, 1))
        self.assertEqual(never.share_given({}, {}), (1, 1))

    def test_summed(self):
        for table in some_tables():
            for lot in lots_within(table.things, 1):
                part = table.summed(lot)
                self.assertEqual(part.things, lot)
                self.assertEqual(part.sizes, {thing: table.sizes[thing] for thing in lot})
                self.assertEqual(part.shares, {
                    row: pair(value_of(table, dict(zip(lot, row)))) for row in rows_of(part.sizes.values())})
                self.assertEqual(part, Table(part.sizes, part.shares))
            self.assertEqual(table.summed(table.things), table)

    def test_is_free(self):
        tables = [some_table(seed, (2, 2, 2), (0, 0.5)[seed % 2]) for seed in range(8)]
        tables += [some_table(1, (2, 3, 2, 2)), even_world(FORK, 3).seen]
        # Things that are drawn by themselves, and a thing that tells whether two others are alike.
        one, two = ((1, 3), (2, 3)), ((1, 4), (3, 4))
        tables.append(Table({"a": 2, "b": 2, "c": 2}, {
            (a, b, c): lowest(one[a][0] * two[b][0] * (1 if c == 0 else 0), 12) for a, b, c in rows_of((2, 2, 2))}))
        tables.append(Table({"a": 2, "b": 2, "c": 2}, {
            (a, b, c): (1, 4) if a ^ b == c else (0, 1) for a, b, c in rows_of((2, 2, 2))}))
        told = set()
        for table in tables:
            for x, y, z in all_sayings(table.things):
                free = True
                for row in rows_of([table.sizes[thing] for thing in x + y + z]):
                    event = dict(zip(x + y + z, row))
                    part = {lot: {thing: event[thing] for thing in lot} for lot in (x + z, y + z, z)}
                    one, other, seen = (value_of(table, part[lot]) for lot in (x + z, y + z, z))
                    free = free and value_of(table, event) * seen == one * other
                self.assertIs(table.is_free(x, y, z), free)
                told.add(free)
        self.assertEqual(told, {True, False})
        last = tables[-1]
        self.assertIs(last.is_free(("a",), ("b",), ()), True)
        self.assertIs(last.is_free(("a",), ("b",), ("c",)), False)
        self.assertIs(last.is_free(("a",), ("b", "c"), ()), False)

    def test_rows(self):
        table = some_table(3, (2, 3, 4))
        for lot in lots_within(table.things):
            self.assertEqual(list(table.rows(lot)), rows_of([table.sizes[thing] for thing in lot]))
        self.assertEqual(list(table.rows(())), [()])
        self.assertEqual(list(table.rows()), rows_of((2, 3, 4)))
        self.assertEqual(list(table.rows(None)), rows_of((2, 3, 4)))
        walk = table.rows()
        self.assertIs(iter(walk), walk)
        self.assertEqual([next(walk), next(walk)], [(0, 0, 0), (0, 0, 1)])

    def test_equal(self):
        tables = list(some_tables())
        for one, other in itertools.product(tables, tables):
            same = one.sizes == other.sizes and one.shares == other.shares
            self.assertIs(one == other, same)
            self.assertIs(one != other, not same)
        self.assertNotEqual(Table({"a": 2}, {(0,): (1, 2), (1,): (1, 2)}), Table({"b": 2}, {(0,): (1, 2), (1,): (1, 2)}))
        for value in ODD + (FORK, even_world(FORK)):
            self.assertIs(tables[0] == value, False)
            self.assertIs(value == tables[0], False)
            self.assertIs(tables[0] != value, True)

    def test_operands_of_another_kind(self):
        table = Table(SIZES, EVEN)
        for call in (lambda: iter(table), lambda: list(table), lambda: table < table, lambda: table + 1, lambda: table[0],
                     lambda: dict(table)):
            with self.assertRaises(TypeError):
                call()


class WrongTableTest(unittest.TestCase):
    def assert_none(self, sizes, shares):
        with self.assertRaises(InvalidTable, msg=str((sizes, shares))[:80]):
            Table(sizes, shares)

    def test_sizes(self):
        for value in ODD + (FORK, even_world(FORK).seen, [("a", 2)], (("a", 2),)):
            self.assert_none(value, EVEN)
        for size in (1, 0, -2, 17, True, None, "2", (2,), [], TOO_LONG, FORK):
            self.assert_none({"a": size}, {(value,): (1, 2) for value in range(2)})
            self.assert_none({"a": size, "b": 2}, EVEN)
        for name in ("", "A", "1", 1, None, True, ("a",), "abcdefghi"):
            self.assert_none({name: 2}, {(0,): (1, 2), (1,): (1, 2)})
        self.assert_none({}, {(): (1, 1)})
        self.assert_none({thing: 2 for thing in "abcdefg"}, {row: (1, 128) for row in rows_of((2,) * 7)})

    def test_bounds(self):
        self.assertEqual(len(Table({"a": 16}, {(value,): (1, 16) for value in range(16)})), 16)
        counts = (16, 16, 16)
        self.assertEqual(len(Table(dict(zip("abc", counts)), {row: (1, 4096) for row in rows_of(counts)})), 4096)
        counts = (4,) * 6
        self.assertEqual(len(Table(dict(zip("abcdef", counts)), {row: (1, 4096) for row in rows_of(counts)})), 4096)
        counts = (16, 16, 16, 2)
        self.assert_none(dict(zip("abcd", counts)), {row: (1, 8192) for row in rows_of(counts)})
        counts = (15, 15, 15, 2)
        self.assert_none(dict(zip("abcd", counts)), {row: (1, 6750) for row in rows_of(counts)})
        self.assert_none({"a": 17}, {(value,): (1, 17) for value in range(17)})

    def test_bottoms(self):
        most = TOO_LONG - 1
        table = Table({"a": 2}, {(0,): (1, most), (1,): (most - 1, most)})
        self.assertEqual(table.share({"a": 1}), (most - 1, most))
        one, other = 10 ** 500, 10 ** 500 - 1
        shares = {(0,): (1, one), (1,): (1, other), (2,): None}
        rest = 1 - Fraction(1, one) - Fraction(1, other)
        shares[2,] = pair(rest)
        self.assertEqual(len(str(rest.denominator)), 1000)
        self.assertEqual(Table({"a": 3}, shares).shares, shares)
        # The bottoms have at most 1000 digits each, but their least common multiple has 1001.
        one, other = 10 ** 501, 10 ** 500 - 1
        rest = [Fraction(1, one), Fraction(one // 2 - 1, one), Fraction(1, other), Fraction(1, 2) - Fraction(1, other)]
        self.assertEqual(sum(rest), 1)
        self.assert_none({"a": 4}, {(k,): pair(part) for k, part in enumerate(rest)})

    def test_shares(self):
        for value in ODD + (FORK, even_world(FORK).seen, list(EVEN.items()), tuple(EVEN.items())):
            self.assert_none(SIZES, value)
        good = {(0, 0): (1, 2), (0, 1): (1, 4), (1, 0): (1, 4), (1, 1): (0, 1)}
        self.assertEqual(Table(SIZES, good).shares, good)
        for wrong in ((1, 3), (2, 8), (-1, 4), (1, 0), (0, 2), [1, 4], None, 0, True, "1/4", (True, 4), (1, TOO_LONG), (1, 4, 1),
                      (TOO_LONG, 1), FORK):
            for row in good:
                self.assert_none(SIZES, {**good, row: wrong})
        self.assert_none(SIZES, {**good, (0, 0): (3, 4), (1, 1): (-1, 4)})
        self.assert_none(SIZES, {**good, (0, 0): (1, 4)})

    def test_rows(self):
        three = {(0, 0): (1, 2), (0, 1): (1, 4), (1, 0): (1, 4)}
        self.assert_none(SIZES, three)
        self.assert_none(SIZES, {**EVEN, (0, 2): (0, 1)})
        self.assert_none(SIZES, {**EVEN, (): (0, 1)})
        for row in ((1, 2), (2, 1), (-1, 0), (1,), (1, 1, 1), 3, "11", None, (True, 1), (1, True), (None, 1), ("1", 1), (1, "1"),
                    (TOO_LONG, 1), ((1,), 1)):
            self.assert_none(SIZES, {**three, row: (0, 1)})
        self.assert_none(SIZES, {(0, 0): (1, 2), (0, 1): (1, 4), (True, 0): (1, 4), (1, 1): (0, 1)})
        self.assert_none(SIZES, {(False, False): (1, 2), (0, 1): (1, 4), (1, 0): (1, 4), (1, 1): (0, 1)})
        self.assert_none({"a": 2}, {0: (1, 2), 1: (1, 2)})


class WrongArgumentTest(unittest.TestCase):
    NO_EVENTS = ODD[:27] + (
        [("a", 0)], (("a", 0),), {"q": 0}, {"a": 2}, {"a": -1}, {"a": True}, {"a": None}, {"a": "0"}, {"a": (0,)}, {"a": []},
        {0: 0}, {("a",): 0}, {None: 0}, {"a": 0, "b": 5}, {"a": TOO_LONG}, FORK, {"a": FORK}, {"A": 0}, {("a", "b"): (0, 0)})

    def test_events(self):
        table = Table(SIZES, EVEN)
        for value in self.NO_EVENTS:
            if value == {}:
                continue
            with self.assertRaises(InvalidDeed, msg=str(value)[:50]):
                table.share(value)
            for call in (lambda: table.share_given(value, {}), lambda: table.share_given({}, value),
                         lambda: table.share_given(value, None)):
                with self.assertRaises(InvalidDeed, msg=str(value)[:50]):
                    call()
        for one, other in (({"a": 0}, {"a": 0}), ({"a": 0}, {"a": 1}), ({"a": 0, "b": 1}, {"b": 1}), ({"b": 1}, {"a": 0, "b": 1})):
            with self.assertRaises(InvalidDeed):
                table.share_given(one, other)

    def test_lots(self):
        table = even_world(FORK).seen
        for value in NO_LOTS + ((),):
            with self.assertRaises(InvalidLot, msg=str(value)[:50]):
                table.summed(value)
            for args in ((value, ("b",), ("c",)), (("b",), value, ("c",))):
                with self.assertRaises(InvalidLot):
                    table.is_free(*args)
        for value in NO_LOTS:
            with self.assertRaises(InvalidLot):
                table.is_free(("b",), ("c",), value)
            if value is not None:
                walk = table.rows(value)
                with self.assertRaises(InvalidLot):
                    next(walk)
        for x, y, z in ((("a",), ("a",), ()), (("a",), ("b",), ("a",)), (("a",), ("b",), ("b",)), (("a", "b"), ("b", "c"), ()),
                        ((), ("a",), ()), (("a",), (), ()), (("x",), ("b",), ())):
            with self.assertRaises(InvalidLot):
                table.is_free(x, y, z)

    def test_long_tables_of_the_package(self):
        """What the package sums may have any bottoms that a table has."""
        most = TOO_LONG - 1
        table = Table({"a": 2, "b": 2}, {(0, 0): (1, most), (0, 1): (1, 3), (1, 0): (1, 3), (1, 1): pair(
            1 - Fraction(1, most) - Fraction(2, 3))})
        self.assertEqual(Fraction(*table.summed(("a",)).share({"a": 0})), Fraction(1, most) + Fraction(1, 3))
        self.assertIs(table.is_free(("a",), ("b",), ()), False)

    def test_shares_of_helper(self):
        self.assertEqual(sum(Fraction(*part) for part in some_shares(random.Random(1), 5)), 1)

    def test_values_are_kept_apart(self):
        for value in ODDER:
            self.assertIs(Table(SIZES, EVEN) == value, False)


if __name__ == "__main__":
    unittest.main()
