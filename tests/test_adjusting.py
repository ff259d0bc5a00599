"""Stage 16: adjusting, adjust bars, worlds in which adjusting errs, and lots that adjust for the least price."""
import random
import unittest
from fractions import Fraction

from seenanddone.adjust.adjusting import adjust_bar, adjusted, is_adjust_bar, is_adjusting, led, trimmed
from seenanddone.adjust.erring import bar_world, erring_world, is_erring, lightest_adjusting, widest_adjusting
from seenanddone.bars.felt import joints_of, sum_world
from seenanddone.bars.separators import is_lightest, lightest
from seenanddone.deed.deeds import done
from seenanddone.errors import InvalidDeed, InvalidDiagram, InvalidLot, InvalidOperation, InvalidTable, Refused
from seenanddone.web.diagrams import Diagram
from seenanddone.world.tables import Table
from seenanddone.world.worlds import World, even_world
from tests.helper import (
    BACK, BOW, DIAMOND, FORK, FRONT, MEET, NO_DIAGRAMS, NO_LOTS, ODDER, all_deeds, as_fractions, check_errors,
    check_judge, lots_within, plain_barred, plain_done, plain_sums, rows_of, small_diagrams, some_diagrams, some_effects,
    some_sayings, some_table, some_world)
from tests.test_barred import plain_is_open_trail, plain_open_trails, plain_ways

NO_TABLES = tuple(value for value in ODDER if not isinstance(value, Table))


def cases():
    for seed, diagram in enumerate(list(small_diagrams())[::2]):
        yield diagram, some_sayings(diagram.things, 8, seed)
    for seed, diagram in enumerate(some_diagrams(70, 4, 81, 0.5, 0.25)):
        yield diagram, some_sayings(diagram.things, 8, seed)
    for seed, diagram in enumerate(some_diagrams(12, 5, 82, 0.5, 0.2)):
        yield diagram, some_sayings(diagram.things, 6, seed)


def all_ways(diagram):
    return [way for thing in diagram.things for way in plain_ways(diagram, thing)]


def plain_direct(diagram, x, y):
    return [way for way in all_ways(diagram)
            if [t for t in way if t in x] == [way[0]] and [t for t in way if t in y] == [way[-1]] and len(way) > 1]


def plain_led(diagram, x, y):
    on = {t for way in plain_direct(diagram, x, y) for t in way if t not in x}
    return {way[-1] for way in all_ways(diagram) if way[0] in on and not set(way[1:]) & set(x)}


def plain_trimmed(diagram, x, y):
    firsts = {way[:2] for way in plain_direct(diagram, x, y)}
    return Diagram(diagram.things, tuple(pair for pair in diagram.arrows if pair not in firsts), diagram.bows)


def plain_adjusted(shares, things, x, y, z, deed):
    """[16.2], by sums over rows."""
    whole, both = (plain_sums(shares, things, lot) for lot in (x + y + z, x + z))
    found = {}
    for head, share in plain_sums(shares, things, z).items():
        at = tuple(deed[t] for t in x)
        for row in {row[len(x):len(x + y)] for row in whole}:
            found[row] = found.get(row, Fraction(0)) + share * whole[at + row + head] / both[at + head]
    return found


def plain_errs(world, x, y, z, deed):
    things = world.diagram.things
    return plain_adjusted(plain_done(world, {}), things, x, y, z, deed) != plain_sums(plain_done(world, deed), things, y)


def plain_bars(diagram, x, y, z, many=60):
    """Adjust bars of each kind, by a look at all ways and trails."""
    direct = plain_direct(diagram, x, y)
    found = [("on", way) for way in direct if set(way) & set(z)]
    for way in direct:
        if not set(way) & set(z):
            found += [
                ("below", way, branch) for branch in all_ways(diagram)
                if [t for t in branch if t in way] == [branch[0]] and [t for t in branch if t in z] == [branch[-1]]
                and not set(branch) & set(x)]
    for trail, ways in plain_open_trails(plain_trimmed(diagram, x, y), x, y, z):
        if not any(set(way) & set(x + y) for way in ways.values()):
            found.append(("open", trail, ways))
            if len(found) > many:
                break
    return found


class LedTest(unittest.TestCase):
    def test_led_and_trimmed(self):
        for diagram in list(small_diagrams()) + list(some_diagrams(60, 5, 83, 0.5, 0.2)):
            for x, y in some_effects(diagram.things, 12, 1):
                if x:
                    self.assertEqual(led(diagram, x, y), tuple(sorted(plain_led(diagram, x, y))))
                    self.assertEqual(trimmed(diagram, x, y), plain_trimmed(diagram, x, y))
        self.assertEqual(led(FRONT, ("x",), ("y",)), ("y", "z"))
        self.assertEqual(trimmed(BACK, ("x",), ("y",)).arrows, (("u", "x"), ("u", "y")))
        self.assertEqual([led(FORK, ("a",), ("c",)), led(MEET, ("b",), ("a",))], [(), ()])
        # What is behind a thing on a direct way only over x is not led.
        line = Diagram(("a", "b", "c", "d"), (("a", "b"), ("b", "c"), ("c", "d")))
        self.assertEqual(led(line, ("a", "c"), ("b",)), ("b",))

    def test_errors(self):
        wrong = {0: (InvalidDiagram, NO_DIAGRAMS), 1: (InvalidLot, NO_LOTS + ((),)), 2: (InvalidLot, NO_LOTS + ((), ("a",), ("a", "b")))}
        for call in (led, trimmed, widest_adjusting):
            check_errors(self, call, (DIAMOND, ("a",), ("d",)), wrong)


class AdjustedTest(unittest.TestCase):
    def test_against_sums(self):
        for seed, diagram in enumerate(list(small_diagrams())[::5] + list(some_diagrams(20, 4, 84))):
            draw = random.Random(seed)
            table = some_table(seed, {thing: draw.choice((2, 3)) if len(diagram) < 4 else 2 for thing in diagram.things})
            for x, y, z in some_sayings(diagram.things, 5, seed):
                for deed in all_deeds(table.sizes, x)[:3]:
                    found = adjusted(table, x, y, z, deed)
                    self.assertEqual(as_fractions(found), plain_adjusted(as_fractions(table), table.things, x, y, z, deed))
                    self.assertEqual(found.sizes, {thing: table.sizes[thing] for thing in y})
        table = some_table(3, {"a": 3, "b": 4})
        for value in range(3):
            given = adjusted(table, ("a",), ("b",), (), {"a": value})
            self.assertEqual(given.share({"b": 2}), table.share_given({"b": 2}, {"a": value}))

    def test_errors(self):
        table = some_table(1, dict.fromkeys("abcd", 2))
        no_deeds = ({}, {"a": 2}, {"a": True}, {"b": 0}, {"a": 0, "b": 0}, {"a": "0"}, [("a", 0)], {"q": 0}) + tuple(
            value for value in ODDER if value != {})
        check_errors(self, adjusted, (table, ("a",), ("b",), ("c",), {"a": 1}), {
            0: (InvalidTable, NO_TABLES), 1: (InvalidLot, NO_LOTS + ((),)), 2: (InvalidLot, NO_LOTS + ((), ("a",))),
            3: (InvalidLot, NO_LOTS + (("a",), ("b", "c"))), 4: (InvalidDeed, no_deeds)})
        bare = Table({"a": 2, "b": 2}, {row: (1, 3) if sum(row) < 2 else (0, 1) for row in rows_of([2, 2])})
        with self.assertRaises(Refused) as caught:
            adjusted(bare, ("a",), ("b",), (), {"a": 0})
        self.assertEqual(caught.exception.reason, ("full",))
        with self.assertRaises(InvalidDeed):
            adjusted(bare, ("a",), ("b",), (), {"a": 2})


class BarTest(unittest.TestCase):
    def test_adjusting_or_a_bar(self):
        words = set()
        for seed, (diagram, sayings) in enumerate(cases()):
            world = some_world(diagram, seed, (2,), (2,) if len(diagram.bows) < 4 else (1, 2))
            for x, y, z in sayings:
                adjusts = not set(z) & plain_led(diagram, x, y) and plain_barred(plain_trimmed(diagram, x, y), x, y, z)
                self.assertIs(is_adjusting(diagram, x, y, z), adjusts)
                bar = adjust_bar(diagram, x, y, z)
                self.assertIs(bar is None, adjusts)
                self.assertIs(is_adjust_bar(diagram, x, y, z, bar), not adjusts)
                bars = plain_bars(diagram, x, y, z)
                self.assertIs(not bars, adjusts)
                for value in bars[:20]:
                    self.assertIs(is_adjust_bar(diagram, x, y, z, value), True)
                if bar is not None:
                    words.add(bar[0])
                    self.check_bar(diagram, x, y, z, bar)
                if adjusts:
                    for deed in all_deeds(world.sizes, x)[:2]:
                        self.assertFalse(plain_errs(world, x, y, z, deed))
        self.assertEqual(words, {"on", "below", "open"})

    def check_bar(self, diagram, x, y, z, bar):
        """[16.4], part by part."""
        if bar[0] == "open":
            self.assertTrue(plain_is_open_trail(plain_trimmed(diagram, x, y), x, y, z, *bar[1:]))
            self.assertFalse(any(set(way) & set(x + y) for way in bar[2].values()))
            return
        self.assertIn(bar[1], plain_direct(diagram, x, y))
        self.assertIs(bool(set(bar[1]) & set(z)), bar[0] == "on")
        if bar[0] == "below":
            self.assertIn(bar[2], all_ways(diagram))
            self.assertEqual([t for t in bar[2] if t in bar[1]], [bar[2][0]])
            self.assertEqual([t for t in bar[2] if t in z], [bar[2][-1]])
            self.assertFalse(set(bar[2]) & set(x))

    def test_judge_of_on(self):
        line = Diagram(("a", "b", "c", "d"), (("a", "b"), ("a", "c"), ("b", "d"), ("c", "d")))
        check_judge(self, lambda value: is_adjust_bar(line, ("a",), ("d",), ("b",), value), [("on", ("a", "b", "d"))], [
            ("on", ("a", "c", "d")), ("on", ("a", "b")), ("on", ("b", "d")), ("on", ["a", "b", "d"]), ["on", ("a", "b", "d")], ("on",), ("On", ("a", "b", "d")),
            ("on", ("a", "b", "d"), ()), ("on", ("d", "b", "a")), ("on", ()), ("on", "abd"), ("on", None), ("below", ("a", "b", "d")),
            ("on", ("a", "d")), ("on", ("a", "b", "q"))])
        # Of more things of x and y none is inner.
        longer = Diagram(("a", "b", "c", "d"), (("a", "b"), ("b", "c"), ("c", "d")))
        self.assertIs(is_adjust_bar(longer, ("a", "b"), ("d",), ("c",), ("on", ("a", "b", "c", "d"))), False)
        self.assertIs(is_adjust_bar(longer, ("a", "b"), ("d",), ("c",), ("on", ("b", "c", "d"))), True)
        self.assertIs(is_adjust_bar(longer, ("a",), ("c", "d"), ("b",), ("on", ("a", "b", "c", "d"))), False)
        self.assertIs(is_adjust_bar(longer, ("a",), ("c", "d"), ("b",), ("on", ("a", "b", "c"))), True)

    def test_judge_of_below(self):
        diagram = Diagram(("a", "b", "c", "d", "e"), (("a", "b"), ("b", "c"), ("b", "d"), ("c", "e"), ("d", "e")))
        x, y, z = ("a",), ("c",), ("e",)
        way = ("a", "b", "c")
        check_judge(self, lambda value: is_adjust_bar(diagram, x, y, z, value), [
            ("below", way, ("b", "d", "e")), ("below", way, ("c", "e"))], [
            ("below", way, ("b", "c", "e")), ("below", way, ("a", "b", "d", "e")), ("below", way, ("d", "e")), ("below", way, ("b", "d")),
            ("below", way, ("e",)), ("below", way, ()), ("below", way), ("below", way[:2], ("b", "d", "e")), ("below", ("b", "c"), ("c", "e")),
            ("below", list(way), ("c", "e")), ("below", way, ["c", "e"]), ("on", way), ("below", way, ("c", "e"), ()), ("below", None, ("c", "e")),
            ("below", way, None), ("Below", way, ("c", "e")), ("open", way, ("c", "e")), ["below", way, ("c", "e")]])
        # A branch may have further things of y, and none of x, and ends at its first thing of z.
        two = Diagram(("a", "b", "c", "d"), (("a", "b"), ("b", "c"), ("c", "d")))
        self.assertIs(is_adjust_bar(two, ("a",), ("b", "c"), ("d",), ("below", ("a", "b"), ("b", "c", "d"))), True)
        self.assertIs(is_adjust_bar(two, ("a",), ("b",), ("c", "d"), ("below", ("a", "b"), ("b", "c", "d"))), False)
        self.assertIs(is_adjust_bar(two, ("a",), ("b",), ("c", "d"), ("below", ("a", "b"), ("b", "c"))), True)
        self.assertIs(is_adjust_bar(two, ("a", "c"), ("b",), ("d",), ("below", ("a", "b"), ("b", "c", "d"))), False)
        self.assertIs(is_adjust_bar(two, ("a",), ("c",), ("b", "d"), ("below", ("a", "b", "c"), ("c", "d"))), False)

    def test_things_of_y_behind_one_another(self):
        line = Diagram(("a", "b", "c", "d"), (("a", "b"), ("b", "c"), ("c", "d")))
        bar = adjust_bar(line, ("a",), ("b", "d"), ("c",))
        self.assertEqual(bar, ("below", ("a", "b"), ("b", "c")))
        self.assertIs(is_adjust_bar(line, ("a",), ("b", "d"), ("c",), ("on", ("a", "b", "c", "d"))), False)
        self.assertEqual(trimmed(line, ("a",), ("b", "d")).arrows, line.arrows[1:])

    def test_judge_of_open(self):
        diagram = Diagram(("a", "b", "c", "d", "e"), (("a", "b"), ("a", "e"), ("b", "e"), ("c", "b"), ("c", "d")))
        x, y, z = ("a",), ("d",), ("e",)
        trail, ways = ("a", ">", "b", "<", "c", ">", "d"), {"b": ("b", "e")}
        check_judge(self, lambda value: is_adjust_bar(diagram, x, y, z, value), [("open", trail, ways)], [
            ("open", trail, {}), ("open", trail), ("open", trail, {"b": ("b",)}), ("open", trail[2:], ways), ("open", list(trail), ways),
            ("open", trail, {"b": ["b", "e"]}), ("Open", trail, ways), ("open", (trail, ways)), ("on", trail), ("open", None, ways),
            ("open", trail, None), ("open", trail, {**ways, "c": ("c",)}), ["open", trail, ways], ("below", trail, ways)])
        # The first joint of a direct way is no joint in the trimmed diagram.
        self.assertIs(is_adjust_bar(BACK, ("x",), ("y",), (), ("open", ("x", ">", "y"), {})), False)
        self.assertIs(is_adjust_bar(BACK, ("x",), ("y",), (), ("open", ("x", "<", "u", ">", "y"), {})), True)
        # No way goes over a thing of x or y.
        meets = Diagram(("a", "b", "c", "y", "z"), (("a", "b"), ("b", "y"), ("c", "b"), ("y", "z")))
        value = ("open", ("a", ">", "b", "<", "c"), {"b": ("b", "y", "z")})
        self.assertIs(is_adjust_bar(meets, ("a",), ("c", "y"), ("z",), value), False)
        self.assertIs(is_adjust_bar(meets, ("a",), ("c",), ("z",), value), True)
        bowed = Diagram(("a", "b", "c", "y", "z"), (("b", "y"), ("c", "b"), ("y", "z")), (("a", "b"),))
        value = ("open", ("a", "-", "b", "<", "c"), {"b": ("b", "y", "z")})
        self.assertIs(is_adjust_bar(bowed, ("a",), ("c",), ("z",), value), True)
        self.assertIs(is_adjust_bar(bowed, ("a",), ("c", "y"), ("z",), value), False)
        self.assertIs(is_adjust_bar(bowed, ("a", "y"), ("c",), ("z",), value), False)

    def test_errors(self):
        wrong = {0: (InvalidDiagram, NO_DIAGRAMS), 1: (InvalidLot, NO_LOTS + ((),)), 2: (InvalidLot, NO_LOTS + ((), ("a",))),
                 3: (InvalidLot, NO_LOTS + (("a",), ("d",), ("b", "d")))}
        for call in (is_adjusting, adjust_bar, erring_world):
            check_errors(self, call, (DIAMOND, ("a",), ("d",), ("b",)), wrong)
        for call in (is_adjust_bar, is_erring):
            check_errors(self, call, (DIAMOND, ("a",), ("d",), ("b",), None), wrong)
        check_errors(self, bar_world, (DIAMOND, ("a",), ("d",), ("b",), ("on", ("a", "b", "d"))), {
            **wrong, 4: (InvalidOperation, ODDER + (("on", ("a", "c", "d")), ["on", ("a", "b", "d")]))})


class ErringTest(unittest.TestCase):
    def test_each_bar_errs_for_each_deed(self):
        words = set()
        for diagram, sayings in cases():
            for x, y, z in sayings[:5]:
                bars = plain_bars(diagram, x, y, z, 12)
                for bar in bars[:1] + bars[-3:]:
                    world = bar_world(diagram, x, y, z, bar)
                    words.add(bar[0])
                    self.assertEqual(world.diagram, diagram)
                    self.assertIs(world.full, True)
                    self.assertIs(is_erring(diagram, x, y, z, world), True)
                    for deed in all_deeds(world.sizes, x):
                        self.assertTrue(plain_errs(world, x, y, z, deed))
                        self.assertNotEqual(adjusted(world.seen, x, y, z, deed), done(world, deed).summed(y))
        self.assertEqual(words, {"on", "below", "open"})

    def test_the_worlds_are_sum_worlds(self):
        line = Diagram(("a", "b", "c", "d"), (("a", "b"), ("a", "c"), ("b", "d"), ("c", "d")))
        self.assertEqual(bar_world(line, ("a",), ("d",), ("b",), ("on", ("a", "b", "d"))), sum_world(line, (("a", "b"), ("b", "d")), ()))
        below = Diagram(("a", "b", "c", "d"), (("a", "b"), ("b", "c"), ("b", "d")))
        self.assertEqual(bar_world(below, ("a",), ("c",), ("d",), ("below", ("a", "b", "c"), ("b", "d"))), sum_world(below, below.arrows, ()))
        self.assertEqual(bar_world(BACK, ("x",), ("y",), (), ("open", ("x", "<", "u", ">", "y"), {})),
                         sum_world(BACK, (("u", "x"), ("u", "y")), ()))

    def test_uneven_sources(self):
        # Behind the last meeting thing: a thing that is not fed, the last thing itself, or a bow.
        fork = Diagram(("a", "b", "c", "d"), (("a", "b"), ("c", "b"), ("c", "d")))
        trail = ("a", ">", "b", "<", "c", ">", "d")
        self.assertEqual(bar_world(fork, ("a",), ("d",), ("b",), ("open", trail, {"b": ("b",)})), sum_world(fork, fork.arrows, (), uneven="c"))
        short = Diagram(("a", "b", "d"), (("a", "b"), ("d", "b")))
        self.assertEqual(bar_world(short, ("a",), ("d",), ("b",), ("open", ("a", ">", "b", "<", "d"), {"b": ("b",)})),
                         sum_world(short, short.arrows, (), uneven="d"))
        for bowed, trail, bow in (
                (Diagram(("a", "b", "d"), (("a", "b"),), (("b", "d"),)), ("a", ">", "b", "-", "d"), ("b", "d")),
                (Diagram(("a", "b", "c", "d"), (("a", "b"), ("c", "d")), (("b", "c"),)), ("a", ">", "b", "-", "c", ">", "d"), ("b", "c")),
                (Diagram(("a", "b", "c", "d", "e"), (("a", "b"), ("c", "b"), ("e", "d")), (("c", "e"),)),
                 ("a", ">", "b", "<", "c", "-", "e", ">", "d"), ("c", "e"))):
            bar = ("open", trail, {"b": ("b",)})
            self.assertIs(is_adjust_bar(bowed, ("a",), ("d",), ("b",), bar), True)
            world = bar_world(bowed, ("a",), ("d",), ("b",), bar)
            arrows, bows = joints_of(bowed, trail, {"b": ("b",)})
            self.assertEqual(world, sum_world(bowed, arrows, bows, uneven=bow))
            # With even sources it would not err.
            self.assertFalse(any(plain_errs(sum_world(bowed, arrows, bows), ("a",), ("d",), ("b",), deed) for deed in ({"a": 0}, {"a": 1})))

    def test_adjusting_or_an_erring_world(self):
        told = set()
        for diagram, sayings in list(cases())[::2]:
            for x, y, z in sayings:
                world = erring_world(diagram, x, y, z)
                adjusts = is_adjusting(diagram, x, y, z)
                told.add(adjusts)
                self.assertIs(world is None, adjusts)
                self.assertIs(is_erring(diagram, x, y, z, world), not adjusts)
        self.assertEqual(told, {True, False})

    def test_judge(self):
        for seed, (diagram, sayings) in enumerate(list(cases())[::7]):
            world = some_world(diagram, seed, (2, 3) if len(diagram) < 4 else (2,), (2,) if len(diagram.bows) < 4 else (1,))
            for x, y, z in sayings[:4]:
                errs = any(plain_errs(world, x, y, z, deed) for deed in all_deeds(world.sizes, x))
                self.assertIs(is_erring(diagram, x, y, z, world), errs)
        args = (BACK, ("x",), ("y",), ())
        world = erring_world(*args)
        more = Diagram(BACK.things, BACK.arrows, (("u", "y"),))
        sure = World(BACK, dict.fromkeys("uxy", 2), {}, {
            "u": {(): ((1, 2), (1, 2))}, "x": {(u,): ((1 - u, 1), (u, 1)) for u in (0, 1)},
            "y": {(u, x): ((1 - u, 1), (u, 1)) for u in (0, 1) for x in (0, 1)}})
        check_judge(self, lambda value: is_erring(*args, value), [world, some_world(BACK, 4)], [
            even_world(BACK), even_world(more), sum_world(more, (("u", "x"), ("u", "y")), ()), erring_world(FRONT, ("x",), ("y",), ()), sure,
            world.seen, (world,)])
        self.assertIs(is_erring(BACK, ("x",), ("y",), ("u",), world), False)


class LotTest(unittest.TestCase):
    def test_widest(self):
        told = set()
        for seed, diagram in enumerate(list(small_diagrams())[::2] + list(some_diagrams(40, 4, 85, 0.5, 0.2)) + list(some_diagrams(10, 5, 86))):
            for x, y in some_effects(diagram.things, 6, seed):
                if not x:
                    continue
                lots = [z for z in lots_within([t for t in diagram.things if t not in x + y]) if is_adjusting(diagram, x, y, z)]
                wide = widest_adjusting(diagram, x, y)
                told.add(wide is None)
                self.assertIs(wide is None, not lots)
                if wide is not None:
                    self.assertIn(wide, lots)
                    ahead = {t for t in diagram.ahead(tuple(sorted(x + y))) if t not in x + y}
                    self.assertEqual(set(wide), ahead - plain_led(diagram, x, y))
        self.assertEqual(told, {True, False})

    def test_lightest(self):
        told = set()
        draw = random.Random(2)
        for seed, diagram in enumerate(list(small_diagrams())[::3] + list(some_diagrams(40, 4, 87, 0.5, 0.2)) + list(some_diagrams(15, 5, 88))):
            for x, y in some_effects(diagram.things, 4, seed):
                if not x:
                    continue
                rest = [t for t in diagram.things if t not in x + y]
                prices = {t: draw.randint(1, 9) for t in rest if draw.random() < 0.8}
                found = lightest_adjusting(diagram, x, y, prices)
                lots = [z for z in lots_within(prices) if is_adjusting(diagram, x, y, z)]
                told.add(found is None)
                self.assertIs(found is None, not lots)
                left = {t: prices[t] for t in prices if t not in plain_led(diagram, x, y)}
                self.assertEqual(found, lightest(plain_trimmed(diagram, x, y), x, y, left))
                if found is not None:
                    self.assertIn(found[0], lots)
                    least = min(sum(prices[t] for t in lot) for lot in lots)
                    self.assertEqual(sum(prices[t] for t in found[0]), least)
                    self.assertEqual(sum(amount for amount, _ in found[1]), least)
                    self.assertIs(is_lightest(trimmed(diagram, x, y), x, y, left, found), True)
        self.assertEqual(told, {True, False})

    def test_led_things_are_left_out(self):
        prices = {"z": 1}
        self.assertIsNone(lightest_adjusting(FRONT, ("x",), ("y",), prices))
        self.assertEqual(lightest_adjusting(BACK, ("x",), ("y",), {"u": 7}), (("u",), ((7, ("x", "u", "y")),)))
        self.assertEqual(prices, {"z": 1})

    def test_what_is_not_true(self):
        # Two lots that adjust do not do so together, nor with a further thing that is not behind x.
        row = Diagram(("p", "q", "x", "y"), (("x", "y"),), (("p", "q"), ("p", "x"), ("q", "y")))
        for lot in ((), ("p",), ("q",)):
            self.assertIs(is_adjusting(row, ("x",), ("y",), lot), True)
        self.assertIs(is_adjusting(row, ("x",), ("y",), ("p", "q")), False)
        self.assertIs(is_adjusting(FRONT, ("x",), ("y",), ("z",)), False)
        # An arrow from y to x: no lot adjusts, though a deed on x brings nothing there.
        back = Diagram(("x", "y"), (("y", "x"),))
        self.assertIsNone(widest_adjusting(back, ("x",), ("y",)))
        world = some_world(back, 1)
        self.assertEqual(done(world, {"x": 0}).summed(("y",)), world.seen.summed(("y",)))

    def test_errors(self):
        prices = (None, [], (), {"a": 1}, {"d": 1}, {"b": 0}, {"b": True}, {"b": 1001}, {"q": 1}, {"b": "1"}, {1: 1}, "b", FORK)
        check_errors(self, lightest_adjusting, (DIAMOND, ("a",), ("d",), {"b": 1}), {
            0: (InvalidDiagram, NO_DIAGRAMS), 1: (InvalidLot, NO_LOTS + ((),)), 2: (InvalidLot, NO_LOTS + ((), ("a",))),
            3: (InvalidOperation, prices)})
        # Prices of led things are looked at, too.
        with self.assertRaises(InvalidOperation):
            lightest_adjusting(FRONT, ("x",), ("y",), {"z": 0})


if __name__ == "__main__":
    unittest.main()
