"""Stage 8: webs without arrows, tables that are joined, and tables that split."""
import itertools
import random
import unittest
from fractions import Fraction

from seenanddone.errors import InvalidTable, InvalidWeb, Refused, TooMany, UnknownName
from seenanddone.ties.webs import (
    Web, corner_order, does_split, is_corner_order, is_join_tree, is_ring_without_chord, is_unswapped, join_tree, joined,
    ring_without_chord, unswapped)
from seenanddone.world.tables import Table
from tests.helper import (
    FORK, NO_THINGS, ODDER, all_sayings, as_fractions, check_errors, check_judge, lots_within, plain_sums, rows_of,
    some_table)

LETTERS = ("a", "b", "c", "d", "e", "f")
SQUARE = Web(LETTERS[:4], (("a", "b"), ("a", "d"), ("b", "c"), ("c", "d")))
LINE = Web(LETTERS[:4], (("a", "b"), ("b", "c"), ("c", "d")))
NO_WEBS = ODDER + ((LETTERS[:4], ()), [SQUARE])
NO_TABLES = tuple(value for value in ODDER if not isinstance(value, Table))


def all_webs(most=5):
    """Every web of one to so many things."""
    for size in range(1, most + 1):
        pairs = list(itertools.combinations(LETTERS[:size], 2))
        for many in range(len(pairs) + 1):
            for ties in itertools.combinations(pairs, many):
                yield Web(LETTERS[:size], ties)


def tied(web, a, b):
    return (a, b) in web.ties or (b, a) in web.ties


def plain_cliques(web):
    whole = [lot for lot in lots_within(web.things, 1) if all(tied(web, a, b) for a, b in itertools.combinations(lot, 2))]
    return tuple(sorted(lot for lot in whole if not any(set(lot) < set(other) for other in whole)))


def plain_is_corner_order(web, order):
    return all(
        tied(web, a, b)
        for at, thing in enumerate(order)
        for a, b in itertools.combinations([t for t in order[at + 1:] if tied(web, t, thing)], 2))


def plain_is_ring(web, ring):
    many = len(ring)
    sides = {frozenset((ring[at - 1], ring[at])) for at in range(many)}
    return many > 3 and all((frozenset(pair) in sides) == tied(web, *pair) for pair in itertools.combinations(ring, 2))


def plain_is_tree(web, pairs):
    """[8.2] for a tuple of ascending pairs of indices, by the way between each two cliques."""
    many = len(web.cliques)
    for one in range(many):
        ways = {one: [one]}
        for _ in range(many):
            for i, j in pairs:
                for p, q in ((i, j), (j, i)):
                    if p in ways and q not in ways:
                        ways[q] = ways[p] + [q]
        if len(ways) < many or len(pairs) != many - 1:
            return False
        for other, way in ways.items():
            both = set(web.cliques[one]) & set(web.cliques[other])
            if any(not both <= set(web.cliques[step]) for step in way):
                return False
    return True


def parts(web, a, b, z):
    """Whether a lot parts two things in a web."""
    met, waiting = {a}, [a]
    while waiting:
        for other in web.tied(waiting.pop()):
            if other not in met and other not in z:
                met.add(other)
                waiting.append(other)
    return b not in met


class WebTest(unittest.TestCase):
    def test_parts_of_a_web(self):
        for web in all_webs(4):
            self.assertEqual(web.cliques, plain_cliques(web))
            for thing in web.things:
                self.assertEqual(web.tied(thing), tuple(t for t in web.things if tied(web, t, thing)))
            self.assertEqual(len(web), len(web.things))
        self.assertEqual((SQUARE.things, SQUARE.ties), (LETTERS[:4], (("a", "b"), ("a", "d"), ("b", "c"), ("c", "d"))))
        self.assertEqual(str(LINE), "web of 4 things, 3 ties")
        self.assertEqual(str(Web(("q",))), "web of 1 things, 0 ties")
        self.assertEqual(len(Web(LETTERS, tuple(
            p for p in itertools.combinations(LETTERS, 2) if p not in (("a", "b"), ("c", "d"), ("e", "f")))).cliques), 8)

    def test_equal_and_in(self):
        self.assertEqual(Web(("a", "b"), (("a", "b"),)), Web(("a", "b"), (("a", "b"),)))
        self.assertNotEqual(Web(("a", "b")), Web(("a", "c")))
        for other in (Web(("a", "b")), Web(("a", "c"), (("a", "c"),)), FORK, None, ("a", "b")):
            self.assertNotEqual(Web(("a", "b"), (("a", "b"),)), other)
        for value in ODDER:
            self.assertIs(value in SQUARE, False)
        self.assertIs("c" in SQUARE, True)
        with self.assertRaises(TypeError):
            iter(SQUARE)
        for value in NO_THINGS[:-1] + (("a", "b"),):
            with self.assertRaises(UnknownName) as caught:
                SQUARE.tied(value)
            self.assertEqual(caught.exception.asked, value)

    def test_errors(self):
        for things in (None, (), ("b", "a"), ["a"], tuple("abcdefg"), ("A",), (1,), "a", 3, FORK):
            with self.assertRaises(InvalidWeb):
                Web(things)
        for ties in (None, (("b", "a"),), (("a", "a"),), (("a", "q"),), [("a", "b")], (("b", "c"), ("a", "b")), (("a", "b"),) * 2,
                     ("ab",), (["a", "b"],), (("a", "b", "c"),), {}, "ab", 0, (("a", 1),)):
            with self.assertRaises(InvalidWeb):
                Web(("a", "b", "c"), ties)


class OrderTest(unittest.TestCase):
    def test_one_of_both(self):
        told = set()
        for web in all_webs():
            order, ring = corner_order(web), ring_without_chord(web)
            told.add((order is None, len(web)))
            self.assertIs(order is None, ring is not None)
            self.assertIs(is_corner_order(web, order), order is not None)
            self.assertIs(is_ring_without_chord(web, ring), ring is not None)
            if order is None:
                self.assertTrue(plain_is_ring(web, ring))
            else:
                self.assertEqual(sorted(order), list(web.things))
                self.assertTrue(plain_is_corner_order(web, order))
            tree = join_tree(web)
            self.assertIs(tree is None, order is None)
            self.assertIs(is_join_tree(web, tree), order is not None)
            if tree is not None:
                self.assertTrue(plain_is_tree(web, tree))
        self.assertIn((True, 5), told)

    def test_judges_of_all_orders_and_rings(self):
        for web in all_webs(4):
            for order in itertools.permutations(web.things):
                self.assertIs(is_corner_order(web, order), plain_is_corner_order(web, order))
            for size in range(1, len(web) + 1):
                for ring in itertools.permutations(web.things, size):
                    self.assertIs(is_ring_without_chord(web, ring), plain_is_ring(web, ring))
        for web in list(all_webs())[-1024::37]:
            for ring in list(itertools.permutations(web.things, 4)) + list(itertools.permutations(web.things, 5)):
                self.assertIs(is_ring_without_chord(web, ring), plain_is_ring(web, ring))

    def test_judge_of_trees(self):
        for web in list(all_webs(4)) + list(all_webs())[-1024::60]:
            many = len(web.cliques)
            pairs = list(itertools.combinations(range(many), 2))
            for size in {max(0, many - 2), many - 1, min(many, len(pairs))}:
                for value in itertools.combinations(pairs, size):
                    self.assertIs(is_join_tree(web, value), plain_is_tree(web, value))

    def test_a_ring_of_six(self):
        ring = Web(LETTERS, (("a", "b"), ("a", "f"), ("b", "c"), ("c", "d"), ("d", "e"), ("e", "f")))
        self.assertIsNone(corner_order(ring))
        self.assertEqual(sorted(ring_without_chord(ring)), list(LETTERS))
        self.assertIs(is_ring_without_chord(ring, ("c", "b", "a", "f", "e", "d")), True)

    def test_judges_of_other_values(self):
        check_judge(self, lambda value: is_corner_order(LINE, value), [("a", "b", "c", "d"), ("d", "a", "c", "b")], [
            ("b", "a", "c", "d"), ("a", "b", "c"), ("a", "b", "c", "d", "d"), ("a", "a", "b", "c"), ["a", "b", "c", "d"], "abcd",
            ("a", "b", "c", 1), ("a", "b", "c", ["d"]), {"a": 1, "b": 1, "c": 1, "d": 1}])
        check_judge(self, lambda value: is_ring_without_chord(SQUARE, value), [("a", "b", "c", "d"), ("c", "b", "a", "d")], [
            ("a", "c", "b", "d"), ["a", "b", "c", "d"], ("a", "b", "c", "d", "a"), ("a", "b", "a", "b"), ("a", "b", "c"), "abcd",
            ("a", "b", "c", "q"), (["a"], "b", "c", "d"), ("a", "b", "c", "d", "a", "b", "c", "d")])
        # Two rings of three with one common thing: around both each tie is passed once.
        bow_tie = Web(("a", "b", "c", "d", "e"), (("a", "b"), ("a", "c"), ("a", "d"), ("a", "e"), ("b", "c"), ("d", "e")))
        self.assertIs(is_ring_without_chord(bow_tie, ("a", "b", "c", "a", "d", "e")), False)
        check_judge(self, lambda value: is_join_tree(LINE, value), [((0, 1), (1, 2))], [
            ((0, 1), (0, 2)), ((1, 2), (0, 1)), ((0, True), (1, 2)), ((False, 1), (1, 2)), ((0, 1), (True, 2)), [(0, 1), (1, 2)],
            ((0, 1),), ((1, 0), (1, 2)), ((0, 1), (0, 1)), ((0, 1), (1, 2), (1, 2)), ([0, 1], (1, 2)), ((0, 1, 2), (1, 2)),
            ((0, 1), (1, 3)), ((-1, 1), (1, 2)), ((0, 1), "12"), ((0, 0), (1, 2))])
        self.assertEqual([join_tree(Web(("a",))), is_join_tree(Web(("a",)), ())], [(), True])
        self.assertIs(is_join_tree(SQUARE, ((0, 1), (0, 2), (1, 3))), False)

    def test_errors(self):
        for call in (corner_order, ring_without_chord, join_tree):
            check_errors(self, call, (SQUARE,), {0: (InvalidWeb, NO_WEBS)})
        for call in (is_corner_order, is_ring_without_chord, is_join_tree):
            check_errors(self, call, (SQUARE, None), {0: (InvalidWeb, NO_WEBS)})


class JoinedTest(unittest.TestCase):
    def check_joined(self, web, tables, table):
        """[8.3]: the tables on the cliques, and the product over them."""
        self.assertEqual(table.things, web.things)
        for clique, part in zip(web.cliques, tables):
            self.assertEqual(table.summed(clique), part)
        for a, b in itertools.combinations(web.things, 2):
            rest = [t for t in web.things if t not in (a, b)]
            for z in lots_within(rest):
                if parts(web, a, b, z):
                    self.assertIs(table.is_free((a,), (b,), z), True)
        shares = as_fractions(table)
        for row, share in shares.items():
            worth = dict(zip(web.things, row))
            whole = Fraction(1)
            for clique, part in zip(web.cliques, tables):
                whole *= Fraction(*part.share({t: worth[t] for t in clique}))
            for i, j in join_tree(web):
                both = set(web.cliques[i]) & set(web.cliques[j])
                below = Fraction(*tables[i].share({t: worth[t] for t in both}))
                whole = whole / below if below else 0
            self.assertEqual(share, whole)

    def test_all_small_webs(self):
        for seed, web in enumerate(list(all_webs(4)) + list(all_webs())[-1024::90]):
            if corner_order(web) is None:
                continue
            draw = random.Random(seed)
            sizes = {thing: draw.choice((2, 3)) if len(web) < 5 else 2 for thing in web.things}
            for least, most in ((1, 5), (0, 1)):
                whole = some_table(seed, sizes, least, most)
                tables = tuple(whole.summed(clique) for clique in web.cliques)
                self.check_joined(web, tables, joined(web, tables))

    def test_separators_without_a_share(self):
        def table(lot, rows):
            return Table(dict.fromkeys(lot, 2), {row: (1, len(rows)) if row in rows else (0, 1) for row in rows_of([2, 2])})
        line = Web(("a", "b", "c"), (("a", "b"), ("b", "c")))
        tables = (table(("a", "b"), [(0, 0), (1, 0)]), table(("b", "c"), [(0, 0), (0, 1)]))
        whole = joined(line, tables)
        self.check_joined(line, tables, whole)
        self.assertEqual(whole.share({"b": 1}), (0, 1))

    def test_joined_of_what_is_joined(self):
        for seed, web in enumerate(list(all_webs(4))):
            if corner_order(web) is None:
                continue
            table = some_table(seed, dict.fromkeys(web.things, 2))
            tables = tuple(table.summed(clique) for clique in web.cliques)
            whole = joined(web, tables)
            self.assertIs(does_split(whole, web), True)
            self.assertEqual(whole == table, does_split(table, web))
            self.assertEqual(joined(web, tuple(whole.summed(clique) for clique in web.cliques)), whole)

    def test_rings_and_unlike_tables(self):
        def even(lot):
            return Table(dict.fromkeys(lot, 2), {row: (1, 4) for row in rows_of([2, 2])})

        def odd(lot):
            return Table(dict.fromkeys(lot, 2), {row: (1, 2) if sum(row) == 1 else (0, 1) for row in rows_of([2, 2])})

        def alike(lot):
            return Table(dict.fromkeys(lot, 2), {row: (1, 2) if sum(row) != 1 else (0, 1) for row in rows_of([2, 2])})

        cliques = SQUARE.cliques
        # These agree on what they have in common, and yet no table has them.
        for tables in (tuple(even(lot) for lot in cliques), (odd(cliques[0]),) + tuple(alike(lot) for lot in cliques[1:])):
            with self.assertRaises(Refused) as caught:
                joined(SQUARE, tables)
            self.assertEqual(caught.exception.reason, ("ring",))
        slant = some_table(1, {"a": 2, "b": 2})
        other = some_table(2, {"c": 2, "d": 2})
        with self.assertRaises(Refused) as caught:
            joined(LINE, (slant, even(("b", "c")), other))
        self.assertEqual(caught.exception.reason, ("unlike", 0, 1))
        with self.assertRaises(Refused) as caught:
            joined(LINE, (even(("a", "b")), even(("b", "c")), other))
        self.assertEqual(caught.exception.reason, ("unlike", 1, 2))
        star = Web(("a", "b", "c", "d"), (("a", "d"), ("b", "d"), ("c", "d")))
        with self.assertRaises(Refused) as caught:
            joined(star, (even(("a", "d")), even(("b", "d")), some_table(5, {"c": 2, "d": 2})))
        self.assertEqual(caught.exception.reason, ("unlike", 0, 2))
        # The ring is told ahead of unlike tables, and rows that are too many ahead of both.
        with self.assertRaises(Refused) as caught:
            joined(SQUARE, tuple(some_table(seed, dict.fromkeys(lot, 2)) for seed, lot in enumerate(cliques)))
        self.assertEqual(caught.exception.reason, ("ring",))
        with self.assertRaises(TooMany) as caught:
            joined(SQUARE, tuple(some_table(seed, dict.fromkeys(lot, 9)) for seed, lot in enumerate(cliques)))
        self.assertEqual(caught.exception.limit, 4096)
        with self.assertRaises(TooMany):
            joined(Web(LETTERS), tuple(some_table(1, {thing: 5}) for thing in LETTERS))
        self.assertEqual(len(joined(Web(LETTERS), tuple(some_table(1, {thing: 4}) for thing in LETTERS))), 4096)

    def test_errors(self):
        whole = some_table(3, dict.fromkeys("abcd", 2))
        tables = tuple(whole.summed(clique) for clique in LINE.cliques)
        no_tables = (
            None, True, 1, (), tables[:2], tables + tables[:1], list(tables), tables[::-1], (tables[0], tables[1], None), whole,
            (whole,) * 3, {}, (tables[0], tables[1], some_table(3, {"c": 3, "d": 2})), (tables[0], tables[1], FORK))
        check_errors(self, joined, (LINE, tables), {0: (InvalidWeb, NO_WEBS), 1: (InvalidTable, no_tables)})
        unlike = (some_table(1, {"a": 2, "b": 2}), some_table(1, {"a": 3, "c": 2}), tables[2])
        with self.assertRaises(InvalidTable):
            joined(Web(("a", "b", "c"), (("a", "b"), ("a", "c"))), unlike[:2])


class SplitTest(unittest.TestCase):
    def plain_rows(self, table, web):
        """All unswapped rows, by a look at all quadruples."""
        shares = as_fractions(table)
        found = []
        for p, s in itertools.product(shares, repeat=2):
            spots = [at for at in range(len(p)) if p[at] != s[at]]
            if len(spots) != 2 or (web.things[spots[0]], web.things[spots[1]]) in web.ties:
                continue
            if any(p[at] > s[at] for at in spots):
                continue
            q, r = list(p), list(p)
            q[spots[1]], r[spots[0]] = s[spots[1]], s[spots[0]]
            q, r = tuple(q), tuple(r)
            if shares[p] * shares[s] != shares[q] * shares[r]:
                found.append((p, q, r, s))
        return found

    def test_against_a_plain_look(self):
        told = set()
        for seed, web in enumerate(list(all_webs(4))):
            draw = random.Random(seed)
            sizes = {thing: draw.choice((2, 3)) if len(web) < 4 else 2 for thing in web.things}
            table = some_table(seed, sizes)
            tables = [table]
            if corner_order(web) is not None:
                tables.append(joined(web, tuple(table.summed(clique) for clique in web.cliques)))
            for one in tables:
                rows = self.plain_rows(one, web)
                told.add(not rows)
                split = all(
                    one.is_free((a,), (b,), tuple(t for t in web.things if t not in (a, b)))
                    for a, b in itertools.combinations(web.things, 2) if (a, b) not in web.ties)
                self.assertIs(not rows, split)
                self.assertIs(does_split(one, web), split)
                found = unswapped(one, web)
                self.assertIs(found is None, split)
                self.assertIs(is_unswapped(one, web, found), not split)
                if found is not None:
                    self.assertIn(found, rows)
                for value in rows[:40]:
                    self.assertIs(is_unswapped(one, web, value), True)
                    self.assertIs(is_unswapped(one, web, value[::-1]), False)
        self.assertEqual(told, {True, False})

    def test_all_quadruples(self):
        web = Web(("a", "b"))
        table = some_table(2, {"a": 3, "b": 2})
        rows = self.plain_rows(table, web)
        self.assertGreater(len(rows), 1)
        for value in itertools.product(rows_of([3, 2]), repeat=4):
            self.assertIs(is_unswapped(table, web, value), value in rows)
        check_judge(self, lambda value: is_unswapped(table, web, value), rows, [
            tuple(list(row) for row in rows[0]), list(rows[0]), rows[0][:3], rows[0] + rows[0][:1],
            tuple((bool(a), b) for a, b in rows[0])])
        self.assertIs(is_unswapped(table, Web(("a", "b"), (("a", "b"),)), rows[0]), False)

    def test_lots_that_part(self):
        for seed, web in enumerate(list(all_webs(4))[::3]):
            if corner_order(web) is None:
                continue
            whole = some_table(seed, dict.fromkeys(web.things, 2))
            table = joined(web, tuple(whole.summed(clique) for clique in web.cliques))
            for x, y, z in all_sayings(web.things):
                if all(parts(web, a, b, z) for a in x for b in y):
                    self.assertIs(table.is_free(x, y, z), True)
        # The sums to two things are alike, and the shares of a line are the quotients.
        line = joined(LINE, tuple(some_table(7, dict.fromkeys("abcd", 2)).summed(clique) for clique in LINE.cliques))
        self.assertEqual(plain_sums(as_fractions(line), line.things, ("b", "c")), as_fractions(line.summed(("b", "c"))))

    def test_errors(self):
        table = some_table(1, dict.fromkeys("abcd", 2))
        webs = NO_WEBS + (Web(("a", "b", "c")), Web(("a", "b", "c", "e")))
        for call in (does_split, unswapped):
            check_errors(self, call, (table, LINE), {0: (InvalidTable, NO_TABLES), 1: (InvalidWeb, webs)})
        check_errors(self, is_unswapped, (table, LINE, None), {0: (InvalidTable, NO_TABLES), 1: (InvalidWeb, webs)})
        bare = Table({"a": 2, "b": 2}, {row: (1, 3) if sum(row) < 2 else (0, 1) for row in rows_of([2, 2])})
        for call in (does_split, unswapped, lambda *args: is_unswapped(*args, None)):
            with self.assertRaises(Refused) as caught:
                call(bare, Web(("a", "b")))
            self.assertEqual(caught.exception.reason, ("full",))
            with self.assertRaises(InvalidWeb):
                call(bare, LINE)


if __name__ == "__main__":
    unittest.main()
