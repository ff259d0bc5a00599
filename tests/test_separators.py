"""Stage 5: least separators, prices, and roads that pay."""
import itertools
import random
import unittest

from seenanddone.bars.barred import is_barred
from seenanddone.bars.separators import (
    MAX_PRICE, free_road, is_free_road, is_least_separator, is_lightest, least_separators, lightest, nearest)
from seenanddone.errors import InvalidDiagram, InvalidLot, InvalidOperation, UnknownName
from seenanddone.web.diagrams import Diagram
from tests.helper import (
    BACK, BOW, DIAMOND, FORK, FRONT, MEET, NO_DIAGRAMS, NO_LOTS, NO_THINGS, ODDER, TOO_LONG, all_sayings, check_errors,
    lots_within, plain_ahead, plain_barred, small_diagrams, some_diagrams, some_sayings)
from tests.test_barred import plain_web


def with_ahead(diagram, lot):
    return tuple(sorted(set(lot).union(*(plain_ahead(diagram, thing) for thing in lot))))


def plain_separators(diagram, a, b):
    """All lots that bar two things while no lesser lot does."""
    bars = [set(lot) for lot in lots_within(set(diagram.things) - {a, b}) if plain_barred(diagram, (a,), (b,), lot)]
    return tuple(sorted(tuple(sorted(lot)) for lot in bars if not any(other < lot for other in bars)))


def plain_roads(web, things, x, y):
    """All roads from x to y with other things of some alone."""
    tied = set(web) | {(b, a) for a, b in web}
    others = [thing for thing in things if thing not in x and thing not in y]
    return [
        (a,) + inner + (b,) for a in x for b in y for size in range(len(others) + 1)
        for inner in itertools.permutations(others, size)
        if all(pair in tied for pair in zip((a,) + inner, inner + (b,)))]


def priced_cases():
    """Diagrams with x, y, prices and a lot that is taken."""
    draw = random.Random(8)
    diagrams = list(small_diagrams())[::3] + list(some_diagrams(60, 4, 21)) + list(some_diagrams(50, 5, 22, 0.4, 0.2))
    diagrams += list(some_diagrams(25, 6, 23, 0.35, 0.15))
    for seed, diagram in enumerate(diagrams):
        for x, y, z in some_sayings(diagram.things, 5, seed):
            rest = [thing for thing in diagram.things if thing not in x + y]
            must = tuple(thing for thing in z if draw.random() < 0.3)
            least, most = draw.choice(((1, 1), (1, 3), (1, 1000), (1000, 1000)))
            prices = {thing: draw.randint(least, most) for thing in rest if thing not in must and draw.random() < 0.8}
            yield diagram, x, y, prices, must


class SeparatorTest(unittest.TestCase):
    def test_examples(self):
        self.assertEqual(MAX_PRICE, 1000)
        self.assertEqual(
            [least_separators(DIAMOND, "a", "d"), least_separators(DIAMOND, "b", "c"), least_separators(MEET, "a", "c"),
             least_separators(BACK, "x", "y"), nearest(DIAMOND, "a", "d")],
            [(("b", "c"),), (("a",),), ((),), (), ("b", "c")])
        self.assertEqual([nearest(MEET, "a", "c"), nearest(BACK, "x", "y"), nearest(DIAMOND, "d", "a")], [(), None, ("b", "c")])

    def test_against_all_lots(self):
        diagrams = list(small_diagrams()) + list(some_diagrams(50, 4, 31)) + list(some_diagrams(25, 5, 32, 0.4, 0.2))
        diagrams += list(some_diagrams(8, 6, 33, 0.35, 0.15))
        for diagram in diagrams:
            for a, b in itertools.permutations(diagram.things, 2):
                expected = plain_separators(diagram, a, b)
                self.assertEqual(least_separators(diagram, a, b), expected)
                whole = with_ahead(diagram, (a, b))
                web = plain_web(diagram, whole)
                for lot in lots_within(diagram.things):
                    self.assertIs(is_least_separator(diagram, a, b, lot), lot in expected)
                near = [lot for lot in expected if all(tuple(sorted((a, thing))) in web for thing in lot)]
                self.assertEqual(len(near), min(len(expected), 1))
                self.assertEqual(nearest(diagram, a, b), near[0] if near else None)
                # [5.2]: what each road meets, and none with a thing less.
                roads = plain_roads(web, whole, (a,), (b,))
                cuts = [lot for lot in lots_within(set(whole) - {a, b}) if all(set(road) & set(lot) for road in roads)]
                least = [lot for lot in cuts if not any(set(other) < set(lot) for other in cuts)]
                self.assertEqual(tuple(sorted(least)), expected)

    def test_a_road_has_a_thing_of_what_bars(self):
        """[5.1]"""
        for seed, diagram in enumerate(list(small_diagrams())[::3] + list(some_diagrams(40, 4, 41))):
            for x, y, z in some_sayings(diagram.things, 20, seed):
                whole = with_ahead(diagram, x + y + z)
                roads = plain_roads(plain_web(diagram, whole), whole, x, y)
                self.assertIs(is_barred(diagram, x, y, z), all(set(road) & set(z) for road in roads))

    def test_judged_values(self):
        for value in ODDER + NO_LOTS + ((), ("b",), ["b", "c"], ("c", "b"), ("b", "c", "d"), ("a", "b"), "bc", {"b": "c"}):
            self.assertIs(is_least_separator(DIAMOND, "a", "d", value), False)
        self.assertIs(is_least_separator(DIAMOND, "a", "d", ("b", "c")), True)
        self.assertIs(is_least_separator(MEET, "a", "c", ()), True)
        self.assertIs(is_least_separator(MEET, "a", "c", []), False)

    def test_errors(self):
        wrong = [value for value in NO_THINGS if value not in ("a", "b")]
        for call, more in ((least_separators, ()), (nearest, ()), (is_least_separator, (None,)), (is_least_separator, (("b",),))):
            check_errors(self, call, (FORK, "a", "c") + more, {
                0: (InvalidDiagram, NO_DIAGRAMS), 1: (UnknownName, wrong), 2: (UnknownName, wrong + ["a"])})
            for value in wrong:
                for args in ((value, "c"), ("a", value), (value, value)):
                    with self.assertRaises(UnknownName) as caught:
                        call(FORK, *args, *more)
                    self.assertIs(caught.exception.asked, value)
            with self.assertRaises(UnknownName) as caught:
                call(FORK, "a", "a", *more)
            self.assertEqual(caught.exception.asked, "a")
            with self.assertRaises(UnknownName) as caught:
                call(FORK, "q", "r", *more)
            self.assertEqual(caught.exception.asked, "q")


class LightestTest(unittest.TestCase):
    def test_against_all_let_lots(self):
        told = set()
        for diagram, x, y, prices, must in priced_cases():
            let = [tuple(sorted(lot + must)) for lot in lots_within(prices)]
            bars = [lot for lot in let if plain_barred(diagram, x, y, lot)]
            price = {lot: sum(prices.get(thing, 0) for thing in lot) for lot in let}
            whole = with_ahead(diagram, x + y + must)
            roads = plain_roads(plain_web(diagram, whole), [thing for thing in whole if thing not in must], x, y)
            free = [road for road in roads if not set(road) & set(prices)]
            found, road = lightest(diagram, x, y, prices, must=must), free_road(diagram, x, y, prices, must=must)
            told.add((bool(bars), bool(roads)))
            # [5.4]: a let lot that bars, or a free road.
            self.assertIs(found is None, not bars)
            self.assertIs(road is None, bool(bars))
            self.assertEqual(bool(free), not bars)
            for one in roads:
                self.assertIs(is_free_road(diagram, x, y, prices, one, must=must), one in free)
                for lot in bars:
                    self.assertTrue(set(lot) & set(one) & set(prices))
            if road is not None:
                self.assertIn(road, free)
            if found is not None:
                lot, paid = found
                self.assertIn(lot, bars)
                self.assertEqual(price[lot], min(price[other] for other in bars))
                self.check_paid(prices, roads, lot, paid)
                for other in let:
                    good = other in bars and price[other] == price[lot]
                    self.assertIs(is_lightest(diagram, x, y, prices, (other, paid), must=must), good)
            self.assertEqual(lightest(diagram, x, y, prices, must=must), found)
            self.assertIs(is_lightest(diagram, x, y, prices, found, must=must), found is not None)
        self.assertEqual(told, {(True, True), (True, False), (False, True)})

    def check_paid(self, prices, roads, lot, paid):
        self.assertEqual(list(paid), sorted(set(paid)))
        for amount, road in paid:
            self.assertGreaterEqual(amount, 1)
            self.assertIn(road, roads)
        for thing, price in prices.items():
            self.assertLessEqual(sum(amount for amount, road in paid if thing in road), price)
        self.assertEqual(sum(amount for amount, _ in paid), sum(prices.get(thing, 0) for thing in lot))

    def test_examples(self):
        self.assertEqual(lightest(DIAMOND, ("a",), ("d",), {"b": 3, "c": 1000}),
                         (("b", "c"), ((3, ("a", "b", "d")), (1000, ("a", "c", "d")))))
        self.assertEqual(lightest(MEET, ("a",), ("c",), {}), ((), ()))
        self.assertEqual(lightest(MEET, ("a",), ("c",), {"b": 1}), ((), ()))
        self.assertIsNone(lightest(MEET, ("a",), ("c",), {}, must=("b",)))
        self.assertEqual(free_road(MEET, ("a",), ("c",), {}, must=("b",)), ("a", "c"))
        self.assertEqual(lightest(FORK, ("a",), ("c",), {}, must=("b",)), (("b",), ()))
        self.assertIsNone(lightest(DIAMOND, ("a",), ("d",), {"b": 1}))
        self.assertEqual(free_road(DIAMOND, ("a",), ("d",), {"b": 1}), ("a", "c", "d"))
        self.assertEqual(lightest(DIAMOND, ("a",), ("d",), {"c": 7}, must=("b",)), (("b", "c"), ((7, ("a", "c", "d")),)))
        self.assertIsNone(lightest(BOW, ("x",), ("y",), {}))
        self.assertEqual(free_road(BOW, ("x",), ("y",), {}), ("x", "y"))
        self.assertIsNone(free_road(DIAMOND, ("a",), ("d",), {"b": 1, "c": 1}))

    def test_many_roads_share_a_thing(self):
        ladder = Diagram(("a", "b", "c", "d", "e", "f"), (
            ("a", "b"), ("a", "c"), ("b", "d"), ("b", "e"), ("c", "d"), ("c", "e"), ("d", "f"), ("e", "f")))
        for costs in itertools.product((1, 2, 5), repeat=4):
            prices = dict(zip("bcde", costs))
            lot, paid = lightest(ladder, ("a",), ("f",), prices)
            self.assertEqual(sum(prices[thing] for thing in lot), min(costs[0] + costs[1], costs[2] + costs[3]))
            self.assertIs(is_lightest(ladder, ("a",), ("f",), prices, (lot, paid)), True)

    def test_roads_that_share_nothing(self):
        """[5.5]"""
        diagrams = list(some_diagrams(40, 5, 51, 0.4, 0.2)) + list(some_diagrams(20, 6, 52, 0.35, 0.15))
        for diagram in diagrams:
            for a, b in itertools.combinations(diagram.things, 2):
                prices = {thing: 1 for thing in diagram.things if thing not in (a, b)}
                found = lightest(diagram, (a,), (b,), prices)
                least = least_separators(diagram, a, b)
                self.assertIs(found is None, not least)
                if found is not None:
                    lot, paid = found
                    self.assertEqual(len(lot), min(map(len, least)))
                    self.assertEqual([amount for amount, _ in paid], [1] * len(lot))
                    inner = [thing for _, road in paid for thing in road[1:-1]]
                    self.assertEqual(len(inner), len(set(inner)))
                draw = random.Random(str(diagram.arrows) + a + b)
                prices = {thing: draw.randint(1, 9) for thing in prices if draw.random() < 0.7}
                within = [lot for lot in least if set(lot) <= set(prices)]
                if within:
                    cheapest = min(sum(prices[thing] for thing in lot) for lot in within)
                    self.assertEqual(sum(prices[thing] for thing in lightest(diagram, (a,), (b,), prices)[0]), cheapest)

    def test_roads_that_hinder_one_another(self):
        """A road that has two things of the lightest lot may get nothing, or too little is left for others."""
        for b, c, d, e in itertools.permutations("bcde"):
            arrows = (("a", b), ("a", c), (b, d), (b, e), (c, d), (d, "f"), (e, "f"))
            diagram = Diagram(("a", "b", "c", "d", "e", "f"), tuple(sorted(arrows)))
            for costs in itertools.product((1, 2, 10), repeat=4):
                prices = dict(zip((b, c, d, e), costs))
                found = lightest(diagram, ("a",), ("f",), prices)
                self.assertIs(is_lightest(diagram, ("a",), ("f",), prices, found), True)
                bars = [lot for lot in lots_within("bcde") if is_barred(diagram, ("a",), ("f",), lot)]
                least = min(sum(prices[thing] for thing in lot) for lot in bars)
                self.assertEqual(sum(prices[thing] for thing in found[0]), least)
                self.assertEqual(sum(amount for amount, _ in found[1]), least)

    def test_roads_with_things_twice(self):
        """A road has different things, and only its ends in x or y."""
        diagram = Diagram(("a", "b", "c", "d"), (("a", "b"), ("b", "c"), ("b", "d"), ("c", "d")))
        for value, good in ((("a", "b", "d"), True), (("a", "b", "c", "d"), True), (("a", "b", "c", "b", "d"), False),
                            (("a", "b", "a", "b", "d"), False), (("a", "b", "d", "c", "d"), False)):
            self.assertIs(is_free_road(diagram, ("a",), ("d",), {}, value), good)
            self.assertIs(is_lightest(diagram, ("a",), ("d",), {"b": 2}, (("b",), ((2, value),))), good)
        for value, good in ((("a", "b", "c"), True), (("a", "b", "d"), True), (("a", "b", "c", "d"), False), (("a", "b", "d", "c"), False)):
            self.assertIs(is_free_road(diagram, ("a",), ("c", "d"), {}, value), good)
        for value, good in ((("b", "c", "d"), True), (("a", "b", "d"), False), (("a", "b", "c", "d"), False)):
            self.assertIs(is_free_road(diagram, ("a", "b"), ("d",), {}, value), good)

    def test_all_that_must_be_taken_is_in_the_lot(self):
        loose = Diagram(("a", "b", "c"))
        self.assertEqual(lightest(loose, ("a",), ("c",), {}, must=("b",)), (("b",), ()))
        for value, good in (((("b",), ()), True), (((), ()), False)):
            self.assertIs(is_lightest(loose, ("a",), ("c",), {}, value, must=("b",)), good)

    def test_values_near_a_lightest_one(self):
        prices = {"b": 3, "c": 2}
        good = (("b", "c"), ((2, ("a", "c", "d")), (3, ("a", "b", "d"))))
        call = (DIAMOND, ("a",), ("d",), prices)
        self.assertIs(is_lightest(*call, good), True)
        # One road can stand with several amounts.
        self.assertIs(is_lightest(*call, (("b", "c"), ((1, ("a", "b", "d")), (2, ("a", "b", "d")), (2, ("a", "c", "d"))))), True)
        lot, (one, two) = good
        for value in (
                good + ((),), good[:1], list(good), (list(lot), good[1]), (lot, list(good[1])), (lot, (two, one)), (lot, (one,)),
                (lot, (one, one, two)), (("b",), (two,)), ((), ()), (("b", "c", "d"), good[1]), (("a", "b", "c"), good[1]),
                (lot, ((1, two[1]), two)), (lot, ((1, ("a", "b", "d")), (1, ("a", "b", "d")), (1, ("a", "b", "d")), one)),
                (lot, ((True, ("a", "b", "d")), (2, ("a", "b", "d")), one)), (lot, ((0, two[1]), one, two)),
                (lot, ((-1, two[1]), one, two)), (lot, (one, (3, ["a", "b", "d"]))), (lot, (one, [3, ("a", "b", "d")])),
                (lot, ((2, ("d", "c", "a")), two)), (lot, ((2, ("a", "c")), two)), (lot, ((2, ("a", "d")), two)),
                (lot, ((2, ("a", "c", "c", "d")), two)), (lot, (one, (4, ("a", "b", "d")))), (lot, ((5, ("a", "c", "d")),)),
                (lot, (one, two, None)), (lot, ((2,), two)), (lot, ((2, None), two)), (lot, ((2, 5), two)), (lot, {}), (lot, None),
                (None, good[1]), (("c", "b"), good[1]), (lot, ((TOO_LONG, one[1]), two)), (lot, (one, (3, ("a", "b", "d"), 1))),
                (lot, ((2, ("a", ["c"], "d")), two)), (lot, ((2, ()), two)), (lot, ((2, ("a",)), two))):
            self.assertIs(is_lightest(*call, value), False, value)
        for value in ODDER:
            self.assertIs(is_lightest(*call, value), False)
        # A lot that is let and bars, but is too dear for the roads.
        chain = Diagram(("a", "b", "c", "d"), (("a", "b"), ("b", "c"), ("c", "d")))
        road = ("a", "b", "c", "d")
        call = (chain, ("a",), ("d",), {"b": 3, "c": 2})
        self.assertIs(is_lightest(*call, (("c",), ((2, road),))), True)
        self.assertIs(is_lightest(*call, (("b",), ((3, road),))), False)
        self.assertIs(is_lightest(*call, (("b", "c"), ((5, road),))), False)
        self.assertIs(is_lightest(chain, ("a",), ("d",), {"c": 2}, (("b", "c"), ((2, road),)), must=("b",)), False)
        self.assertIs(is_lightest(chain, ("a",), ("d",), {"c": 2}, (("b",), ()), must=("b",)), True)
        self.assertIs(is_lightest(chain, ("a",), ("d",), {"c": 2}, (("c",), ()), must=("b",)), False)
        self.assertIs(is_lightest(chain, ("a",), ("d",), {"b": 1, "c": 1}, (("b",), ((1, road),))), True)
        self.assertIs(is_lightest(chain, ("a",), ("d",), {"b": 1, "c": 1}, (("c",), ((1, road),))), True)

    def test_values_near_a_free_road(self):
        call = (DIAMOND, ("a",), ("d",), {"b": 1})
        self.assertIs(is_free_road(*call, ("a", "c", "d")), True)
        for value in ODDER + (("a", "b", "d"), ("a", "d"), ("d", "c", "a"), ["a", "c", "d"], ("a", "c"), ("c", "d"), ("a", "c", "q"),
                              ("a", "c", "c", "d"), ("a",), ("d",), (("a",), "c", "d"), ("a", ["c"], "d"), ("a", None, "d")):
            self.assertIs(is_free_road(*call, value), False)
        self.assertIs(is_free_road(DIAMOND, ("a",), ("d",), {}, ("a", "c", "d"), must=("c",)), False)
        self.assertIs(is_free_road(DIAMOND, ("a", "b"), ("d",), {}, ("a", "b", "d")), False)
        self.assertIs(is_free_road(DIAMOND, ("a", "b"), ("d",), {}, ("b", "d")), True)
        # What meets is tied only if it is in the web, by a thing that is taken.
        self.assertIs(is_free_road(MEET, ("a",), ("c",), {}, ("a", "c")), False)
        self.assertIs(is_free_road(MEET, ("a",), ("c",), {}, ("a", "c"), must=("b",)), True)
        self.assertIs(is_free_road(MEET, ("a",), ("c",), {"b": 1}, ("a", "b", "c")), False)
        self.assertIs(is_free_road(FRONT, ("x",), ("y",), {}, ("x", "z", "y")), True)

    def test_errors(self):
        no_prices = (None, True, 0, "b", (), [], ("b",), [("b", 1)], {"a": 1}, {"d": 1}, {"q": 1}, {"b": 0}, {"b": -1}, {"b": 1001},
                     {"b": True}, {"b": None}, {"b": "1"}, {"b": (1, 1)}, {("b",): 1}, {0: 1}, {None: 1}, {"b": 1, "a": 2}, FORK,
                     {"b": TOO_LONG}, {"b": []}, {"b": FORK})
        no_must = NO_LOTS + (("a",), ("d",), ("b",), ("b", "c"), ("a", "c"), ["c"])
        lots = {0: (InvalidDiagram, NO_DIAGRAMS), 1: (InvalidLot, NO_LOTS + ((),)), 2: (InvalidLot, NO_LOTS + ((), ("a",))),
                3: (InvalidOperation, no_prices), "must": (InvalidLot, no_must)}
        good = (DIAMOND, ("a",), ("d",), {"b": 1})
        for call, more in ((lightest, ()), (free_road, ()), (is_lightest, (None,)), (is_free_road, (("a", "c", "d"),))):
            check_errors(self, call, good + more, lots, {"must": ("c",)})
            with self.assertRaises(TypeError):
                call(*good, *more, ("c",))
            for least in (1, 1000):
                call(DIAMOND, ("a",), ("d",), {"b": least, "c": least}, *more)


if __name__ == "__main__":
    unittest.main()
