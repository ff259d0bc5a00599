"""Stage 17: straight worlds, treks, trek cuts, and single doors."""
import itertools
import random
import unittest
from fractions import Fraction

from seenanddone.errors import InvalidDiagram, InvalidLot, InvalidWorld, Refused, UnknownName
from seenanddone.straight.treks import (
    Straight, are_treks_apart, erring_straight, is_erring_straight, is_trek_cut, single_door, trek_cut, treks_apart)
from seenanddone.web.diagrams import Diagram
from tests.helper import (
    BOW, DIAMOND, FORK, FRONT, NO_DIAGRAMS, NO_LOTS, NO_THINGS, ODD, ODDER, all_diagrams, check_errors, check_judge,
    lots_within, plain_ahead, plain_barred, small_diagrams, some_diagrams)
from tests.test_barred import plain_ways

LINE = Straight(FRONT, {("x", "z"): 2, ("z", "y"): 3}, {("x", "y"): (1, 1)}, {"x": 1, "y": 1, "z": 1})
SIX = ("a", "b", "c", "d", "e", "f")


def some_straight(diagram, seed, least=-9, most=9):
    draw = random.Random(seed)
    return Straight(
        diagram, {arrow: draw.randint(least, most) for arrow in diagram.arrows},
        {bow: (draw.randint(least, most), draw.randint(least, most)) for bow in diagram.bows},
        {thing: draw.randint(1, 9) for thing in diagram.things})


def plain_treks(diagram, a, b):
    """Every pair of ways to a and to b whose first things are one thing, or joined by a bow."""
    ways = [way for thing in diagram.things for way in plain_ways(diagram, thing)]
    for left in ways:
        for right in ways:
            if left[-1] == a and right[-1] == b:
                tops = {left[0], right[0]}
                if len(tops) == 1 or tuple(sorted(tops)) in diagram.bows:
                    yield left, right


def plain_worth(straight, trek):
    left, right = trek
    worth = 1
    for way in trek:
        for pair in zip(way, way[1:]):
            worth *= straight.weights[pair]
    if left[0] != right[0]:
        one, other = straight.pulls[tuple(sorted((left[0], right[0])))]
        return worth * one * other
    top = straight.noises[left[0]]
    for bow, pulls in straight.pulls.items():
        if left[0] in bow:
            top += pulls[bow.index(left[0])] ** 2
    return worth * top


def plain_rank(rows):
    left = [[Fraction(part) for part in row] for row in rows]
    rank = 0
    for column in range(len(left[0])):
        for index in range(rank, len(left)):
            if left[index][column]:
                left[rank], left[index] = left[index], left[rank]
                for other in range(rank + 1, len(left)):
                    times = left[other][column] / left[rank][column]
                    left[other] = [one - times * two for one, two in zip(left[other], left[rank])]
                rank += 1
                break
    return rank


def plain_coefficients(straight, b, lot):
    """The coefficients of a lot in the regression of b, by solving for covariances of 0."""
    rows = [[Fraction(straight.covariance(one, two)) for two in lot] + [Fraction(straight.covariance(one, b))] for one in lot]
    for at in range(len(lot)):
        pivot = next(index for index in range(at, len(lot)) if rows[index][at])
        rows[at], rows[pivot] = rows[pivot], rows[at]
        rows[at] = [part / rows[at][at] for part in rows[at]]
        for index in range(len(lot)):
            if index != at:
                rows[index] = [one - rows[index][at] * two for one, two in zip(rows[index], rows[at])]
    return {thing: row[-1] for thing, row in zip(lot, rows)}


def cases():
    yield from list(small_diagrams())[::2]
    yield from some_diagrams(30, 4, 171, 0.5, 0.4)
    yield from some_diagrams(6, 5, 172, 0.5, 0.3)


def ends_of(diagram, many, seed):
    """Pairs of lots that are not empty, and may meet."""
    lots = lots_within(diagram.things, 1)
    every = list(itertools.product(lots, repeat=2))
    return every if len(every) <= many else random.Random(seed).sample(every, many)


class StraightTest(unittest.TestCase):
    def test_covariances_against_treks(self):
        for seed, diagram in enumerate(cases()):
            straight = some_straight(diagram, seed)
            for a, b in itertools.product(diagram.things, repeat=2):
                worths = sum(plain_worth(straight, trek) for trek in plain_treks(diagram, a, b))
                self.assertEqual(straight.covariance(a, b), worths)
                self.assertIs(type(straight.covariance(a, b)), int)

    def test_written_out(self):
        self.assertEqual([LINE.covariance(a, a) for a in "xyz"], [2, 95, 9])
        self.assertEqual([LINE.covariance("x", "z"), LINE.covariance("z", "y"), LINE.covariance("y", "x")], [4, 29, 13])
        pulled = Straight(BOW, {("x", "y"): -2}, {("x", "y"): (3, -5)}, {"x": 7, "y": 11})
        self.assertEqual([pulled.covariance("x", "x"), pulled.covariance("x", "y"), pulled.covariance("y", "y")],
                         [7 + 9, -2 * 16 - 15, 4 * 16 + 2 * -2 * -15 + 25 + 11])

    def test_blocks_and_ranks(self):
        for seed, diagram in enumerate(cases()):
            straight = some_straight(diagram, seed, -2, 2)
            for x, y in ends_of(diagram, 30, seed):
                block = straight.block(x, y)
                self.assertEqual(block, tuple(tuple(straight.covariance(a, b) for b in y) for a in x))
                self.assertEqual(straight.rank(x, y), plain_rank(block))
        self.assertEqual(LINE.rank(("x", "y", "z"), ("x", "y", "z")), 3)

    def test_coefficients(self):
        for seed, diagram in enumerate(cases()):
            straight = some_straight(diagram, seed)
            for a, b in itertools.permutations(diagram.things, 2):
                for z in lots_within([t for t in diagram.things if t not in (a, b)])[:6]:
                    told = plain_coefficients(straight, b, (a,) + z)
                    top, bottom = straight.coefficient(a, b, z)
                    self.assertEqual(Fraction(top, bottom), told[a])
                    self.assertEqual((top, bottom), (told[a].numerator, told[a].denominator))
                    for one in (a,) + z:
                        rest = sum(told[other] * straight.covariance(one, other) for other in told)
                        self.assertEqual(straight.covariance(one, b), rest)

    def test_greatest_numbers(self):
        pairs = tuple(itertools.combinations(SIX, 2))
        straight = Straight(Diagram(SIX, pairs, pairs), dict.fromkeys(pairs, 99), dict.fromkeys(pairs, (99, -99)), dict.fromkeys(SIX, 9999))
        self.assertEqual(straight.rank(SIX, SIX), 6)
        self.assertEqual(straight.coefficient("a", "f", SIX[1:5])[1] > 0, True)
        self.assertEqual((treks_apart(straight.diagram, SIX, SIX)), treks_apart(straight.diagram, SIX, SIX))
        self.assertEqual(len(treks_apart(straight.diagram, SIX, SIX)), 6)

    def test_properties_and_words(self):
        self.assertEqual((LINE.diagram, LINE.weights, LINE.pulls, LINE.noises),
                         (FRONT, {("x", "z"): 2, ("z", "y"): 3}, {("x", "y"): (1, 1)}, {"x": 1, "y": 1, "z": 1}))
        self.assertEqual([list(LINE.weights), list(LINE.noises)], [[("x", "z"), ("z", "y")], ["x", "y", "z"]])
        self.assertEqual(str(LINE), "straight world of 3 things")
        parts = [dict(LINE.weights), dict(LINE.pulls), dict(LINE.noises)]
        same = Straight(FRONT, dict(reversed(list(parts[0].items()))), parts[1], parts[2])
        self.assertTrue(same == LINE and not same != LINE)
        for at, key, value in ((0, ("x", "z"), 3), (1, ("x", "y"), (1, -1)), (2, "z", 2)):
            changed = [dict(part) for part in parts]
            changed[at][key] = value
            self.assertFalse(Straight(FRONT, *changed) == LINE)
        self.assertFalse(any(LINE == value for value in ODDER))
        LINE.weights.clear()
        LINE.pulls.clear()
        LINE.noises.clear()
        parts[0].clear()
        self.assertEqual(LINE, same)
        with self.assertRaises(TypeError):
            iter(LINE)

    def test_spoilt_parts(self):
        weights, pulls, noises = LINE.weights, LINE.pulls, LINE.noises
        for value in NO_DIAGRAMS:
            with self.assertRaises(InvalidDiagram):
                Straight(value, None, None, None)
        numbers = (True, None, "1", (1,), [], 10 ** 1000)
        for good, bad in (
                (weights, [dict(weights, **{"q": 1}), {("x", "z"): 2}, {**weights, ("x", "y"): 1}, {("z", "x"): 2, ("z", "y"): 3}]
                 + [{**weights, ("x", "z"): value} for value in numbers + (100, -100)]),
                (pulls, [{}, {("y", "x"): (1, 1)}, {**pulls, ("x", "z"): (1, 1)}] + [{("x", "y"): (1, value)} for value in numbers + (100, -100)]
                 + [{("x", "y"): (value, 1)} for value in numbers] + [{("x", "y"): value} for value in ([1, 1], (1,), (1, 1, 1), 1, None)]),
                (noises, [{}, {"x": 1, "y": 1}, {**noises, "q": 1}] + [{**noises, "x": value} for value in numbers + (0, -1, 10000)])):
            for value in list(bad) + [odd for odd in ODD if odd != good]:
                parts = [value if part is good else part for part in (weights, pulls, noises)]
                with self.assertRaises(InvalidWorld):
                    Straight(FRONT, *parts)
        Straight(FRONT, {("x", "z"): -99, ("z", "y"): 99}, {("x", "y"): (-99, 99)}, {"x": 1, "y": 9999, "z": 1})
        Straight(Diagram(("a",)), {}, {}, {"a": 5})

    def test_errors(self):
        check_errors(self, LINE.covariance, ("x", "y"), {0: (UnknownName, NO_THINGS[:-9] + ("a", 1)), 1: (UnknownName, ("q", None, [], {}))})
        for call in (LINE.block, LINE.rank):
            check_errors(self, call, (("x",), ("x", "y")), {0: (InvalidLot, NO_LOTS + ((),)), 1: (InvalidLot, NO_LOTS + ((),))})
        check_errors(self, LINE.coefficient, ("x", "y", ("z",)), {
            0: (UnknownName, ("q", None, [], {}, 1)), 1: (UnknownName, ("x", "q", None, [], {})),
            2: (InvalidLot, NO_LOTS + (("x",), ("y",), ("x", "z")))})
        with self.assertRaises(UnknownName) as caught:
            LINE.covariance("x", "q")
        self.assertEqual(caught.exception.asked, "q")


class TrekTest(unittest.TestCase):
    def test_least_cuts_against_all_pairs_of_lots(self):
        for seed, diagram in enumerate(list(all_diagrams(("a", "b", "c")))[::4] + list(some_diagrams(8, 4, 173, 0.5, 0.4))):
            lots = lots_within(diagram.things)
            for x, y in ends_of(diagram, 6, seed):
                treks = [trek for a in x for b in y for trek in plain_treks(diagram, a, b)]
                cuts = [(l, r) for l, r in itertools.product(lots, repeat=2)
                        if all(set(left) & set(l) or set(right) & set(r) for left, right in treks)]
                least = min(len(l) + len(r) for l, r in cuts)
                found = trek_cut(diagram, x, y)
                self.assertIn(found, cuts)
                self.assertEqual(len(found[0]) + len(found[1]), least)
                for value in itertools.product(lots, repeat=2):
                    right = value in cuts and len(value[0]) + len(value[1]) == least
                    self.assertIs(is_trek_cut(diagram, x, y, value), right)
                self.check_apart(diagram, x, y, treks, least)

    def check_apart(self, diagram, x, y, treks, most):
        """[17.4]: as many treks are apart as the least cut counts; each such tuple is taken, in any order."""
        found = treks_apart(diagram, x, y)
        self.assertEqual(len(found), most)
        self.assertTrue(all(trek in treks for trek in found))
        draw = random.Random(most)
        tries = [found, found[::-1], found[1:], found + found[:1]] + [tuple(draw.sample(treks, most)) for _ in range(20) if len(treks) >= most]
        for value in tries:
            lefts = [thing for trek in value for thing in trek[0]]
            rights = [thing for trek in value for thing in trek[1]]
            right = len(set(lefts)) == len(lefts) and len(set(rights)) == len(rights) and len(value) == most
            self.assertIs(are_treks_apart(diagram, x, y, value), right)

    def test_ranks(self):
        reached = 0
        for seed, diagram in enumerate(cases()):
            straight, plain = some_straight(diagram, seed, -99, 99), some_straight(diagram, seed, 0, 1)
            for x, y in ends_of(diagram, 25, seed):
                most = len(treks_apart(diagram, x, y))
                self.assertLessEqual(straight.rank(x, y), most)
                self.assertLessEqual(plain.rank(x, y), most)
                # In some world the rank is this number.
                worlds = itertools.chain([straight], (some_straight(diagram, seed * 100 + at, -99, 99) for at in range(20)))
                self.assertTrue(any(world.rank(x, y) == most for world in worlds))
                reached += most < min(len(x), len(y))
        self.assertGreater(reached, 50)

    def test_edges(self):
        alone = Diagram(("a", "b"))
        self.assertEqual((trek_cut(alone, ("a",), ("b",)), treks_apart(alone, ("a",), ("b",))), (((), ()), ()))
        self.assertEqual(treks_apart(alone, ("a",), ("a", "b")), ((("a",), ("a",)),))
        self.assertEqual(len(treks_apart(alone, ("a", "b"), ("a", "b"))), 2)
        # A thing in both lots counts twice, and one thing cuts the left and the right ways over it.
        door = Diagram(("a", "b", "c", "d", "e"), (("c", "a"), ("c", "b"), ("c", "d"), ("c", "e")))
        found = trek_cut(door, ("a", "b"), ("d", "e"))
        self.assertIn(found, ((("c",), ()), ((), ("c",))))
        self.assertIs(is_trek_cut(door, ("a", "b"), ("d", "e"), (("c",), ("c",))), False)
        both = Diagram(("a", "b"), (), (("a", "b"),))
        self.assertEqual(treks_apart(both, ("a",), ("b",)), ((("a",), ("b",)),))

    def test_judges(self):
        x, y = ("b",), ("c",)
        check_judge(self, lambda value: is_trek_cut(DIAMOND, x, y, value), [
            (("a",), ()), ((), ("a",)), (("b",), ()), ((), ("c",))], [
            ((), ()), (("a",), ("a",)), (("a", "b"), ()), (("c",), ()), (("d",), ()), [("a",), ()], (["a"], ()), (("a",),), (("a",), (), ()),
            (("q",), ()), ("a", ()), (("a",), None)])
        trek = (("a", "b"), ("a", "c"))
        check_judge(self, lambda value: are_treks_apart(DIAMOND, x, y, value), [(trek,)], [
            (), trek, [trek], (trek, trek), (list(trek),), ((("a", "b"),),), ((trek[0], trek[1], trek[1]),), ((trek[1], trek[0]),), ((("b",), ("c",)),), ((("a",), ("a", "c")),), ((("a", "b"), ("a",)),),
            ((("b",), ("a", "c")),), ((("a", "b"), ("c",)),), ((["a", "b"], ("a", "c")),), ((("a", "b"), None),), ((None, ("a", "c")),), (("ab", "ac"),),
            ((("a", "b"), ("a", "c", "d")),), ((("a", "b"), ()),)])
        bowed = Diagram(("a", "b", "c"), (("a", "b"),), (("a", "c"),))
        self.assertIs(are_treks_apart(bowed, ("b",), ("c",), ((("a", "b"), ("c",)),)), True)
        self.assertIs(are_treks_apart(bowed, ("c",), ("b",), ((("c",), ("a", "b")),)), True)
        self.assertIs(are_treks_apart(bowed, ("b",), ("c",), ((("b",), ("c",)),)), False)

    def test_errors(self):
        wrong = {0: (InvalidDiagram, NO_DIAGRAMS), 1: (InvalidLot, NO_LOTS + ((),)), 2: (InvalidLot, NO_LOTS + ((),))}
        for call in (trek_cut, treks_apart):
            check_errors(self, call, (DIAMOND, ("a",), ("a", "b")), wrong)
        for call in (is_trek_cut, are_treks_apart):
            check_errors(self, call, (DIAMOND, ("a",), ("a", "b"), None), wrong)


class DoorTest(unittest.TestCase):
    def test_doors(self):
        doors = errs = 0
        for seed, diagram in enumerate(list(small_diagrams()) + list(some_diagrams(60, 4, 174, 0.6, 0.3)) + list(some_diagrams(10, 5, 175, 0.5, 0.2))):
            drawn = some_straight(diagram, seed)
            for a, b in diagram.arrows:
                bare = Diagram(diagram.things, tuple(pair for pair in diagram.arrows if pair != (a, b)), diagram.bows)
                for z in lots_within([t for t in diagram.things if t not in (a, b)]):
                    behind = any(b in plain_ahead(diagram, thing) for thing in z)
                    door = not behind and plain_barred(bare, (a,), (b,), z)
                    self.assertIs(single_door(diagram, a, b, z), door)
                    made = erring_straight(diagram, a, b, z)
                    weight = drawn.weights[(a, b)]
                    self.assertIs(is_erring_straight(diagram, a, b, z, drawn), plain_coefficients(drawn, b, (a,) + z)[a] != weight)
                    doors += door
                    if door:
                        self.assertIsNone(made)
                        self.assertEqual(drawn.coefficient(a, b, z), (weight, 1))
                        continue
                    errs += 1
                    self.assertEqual(made.diagram, diagram)
                    self.assertNotEqual(plain_coefficients(made, b, (a,) + z)[a], made.weights[(a, b)])
                    self.assertIs(is_erring_straight(diagram, a, b, z, made), True)
        self.assertGreater(min(doors, errs), 200)

    def test_weights_of_0(self):
        back = Diagram(("u", "x", "y"), (("u", "x"), ("u", "y"), ("x", "y")))
        noises = {"u": 1, "x": 2, "y": 3}
        zero = Straight(back, dict.fromkeys(back.arrows, 0), {}, noises)
        self.assertIs(is_erring_straight(back, "x", "y", (), zero), False)
        less = Straight(back, {("u", "x"): 1, ("u", "y"): 1, ("x", "y"): 0}, {}, noises)
        check_judge(self, lambda value: is_erring_straight(back, "x", "y", (), value), [less], [
            zero, Straight(FORK, dict.fromkeys(FORK.arrows, 1), {}, dict.fromkeys("abc", 1)), (less,), [less]])
        self.assertIs(is_erring_straight(back, "x", "y", ("u",), less), False)

    def test_errors(self):
        wrong = {0: (InvalidDiagram, NO_DIAGRAMS), 1: (UnknownName, NO_THINGS[:5] + ([], {}, ("a",))), 2: (UnknownName, ("q", "a", None, [], {})),
                 3: (InvalidLot, NO_LOTS + (("a",), ("b",), ("b", "c")))}
        for call in (single_door, erring_straight):
            check_errors(self, call, (DIAMOND, "a", "b", ("c",)), wrong)
            for a, b in (("b", "a"), ("a", "d"), ("b", "c")):
                with self.assertRaises(Refused) as caught:
                    call(DIAMOND, a, b, ())
                self.assertEqual(caught.exception.reason, ("arrow",))
        check_errors(self, is_erring_straight, (DIAMOND, "a", "b", ("c",), None), wrong)
        with self.assertRaises(Refused):
            is_erring_straight(DIAMOND, "a", "d", (), LINE)


if __name__ == "__main__":
    unittest.main()
