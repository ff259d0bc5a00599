"""Stage 12: deeds, and the rules by which they are exchanged for looks."""
import itertools
import random
import unittest
from fractions import Fraction

from seenanddone.bars.felt import joints_of, sum_world
from seenanddone.deed.deeds import breaking_world, does_rule_hold, done, done_world, is_breaking, is_deed
from seenanddone.errors import InvalidDeed, InvalidDiagram, InvalidLot, InvalidOperation, InvalidTable, InvalidWorld, TooMany
from seenanddone.web.diagrams import Diagram
from seenanddone.world.worlds import World, even_world
from tests.helper import (
    BACK, BOW, DIAMOND, FORK, FRONT, MEET, NO_DIAGRAMS, NO_LOTS, ODDER, all_deeds, as_fractions, check_errors, check_judge,
    lots_within, plain_barred, plain_done, small_diagrams, some_diagrams, some_world)

RULES = ("look", "swap", "deed")
NO_WORLDS = tuple(value for value in ODDER if not isinstance(value, World))


def worlds():
    for seed, diagram in enumerate(list(small_diagrams())[::4] + list(some_diagrams(14, 4, 2, 0.5, 0.25))):
        yield some_world(diagram, seed, (2, 3) if len(diagram) < 4 else (2,), (1, 2) if len(diagram) > 3 else (1, 2, 3))
    yield some_world(FRONT, 5, (2, 3), (3,))


def all_quadruples(things):
    """Every quadruple of lots x, y, z and w no two of which meet, y and z not empty."""
    for places in itertools.product(range(5), repeat=len(things)):
        x, y, z, w = (tuple(t for t, place in zip(things, places) if place == at) for at in (1, 2, 3, 4))
        if y and z:
            yield x, y, z, w


def some_quadruples(things, many, seed):
    every = list(all_quadruples(things))
    return every if len(every) <= many else random.Random(seed).sample(every, many)


def rule_cases():
    for seed, diagram in enumerate(list(small_diagrams())[::3]):
        yield diagram, some_quadruples(diagram.things, 8, seed)
    for seed, diagram in enumerate(some_diagrams(60, 4, 17, 0.5, 0.3)):
        yield diagram, some_quadruples(diagram.things, 8, seed)
    for seed, diagram in enumerate(some_diagrams(12, 5, 18, 0.5, 0.25)):
        yield diagram, some_quadruples(diagram.things, 6, seed)


def without(pairs, lot, ends):
    return tuple(pair for pair in pairs if not any(pair[end] in lot for end in ends))


def plain_holds(diagram, rule, x, y, z, w):
    """[12.4], by a look at all trails."""
    whole = Diagram(diagram.things, without(diagram.arrows, x, (1,)), without(diagram.bows, x, (0, 1)))
    if rule == "swap":
        whole = Diagram(whole.things, without(whole.arrows, z, (0,)), whole.bows)
    if rule == "deed":
        cut = [t for t in z if t not in whole.ahead(w)]
        whole = Diagram(whole.things, without(whole.arrows, cut, (1,)), without(whole.bows, cut, (0, 1)))
    return plain_barred(whole, y, z, tuple(sorted(x + w)))


def plain_breaks(world, rule, x, y, z, w):
    """Whether what the table of [12.4] tells is unequal for some deeds and rows, by sums over done tables."""
    things, sizes = world.diagram.things, world.sizes
    for a in all_deeds(sizes, x):
        one = plain_done(world, a)
        for b in all_deeds(sizes, z):
            left = one if rule == "look" else plain_done(world, {**a, **b})
            for row in all_deeds(sizes, y + w):
                seen = {thing: row[thing] for thing in w}
                beside = {**seen, **b} if rule != "deed" else seen
                if given(left, things, row, seen) != given(one, things, row, beside):
                    return True
    return False


def given(shares, things, event, seen):
    """The share of an event given another one, in shares of rows."""
    def share(wanted):
        spots = [(things.index(thing), value) for thing, value in wanted.items()]
        return sum((part for row, part in shares.items() if all(row[at] == value for at, value in spots)), Fraction(0))
    return share({**event, **seen}) / share(seen)


class DoneTest(unittest.TestCase):
    def test_against_sums(self):
        for seed, world in enumerate(worlds()):
            things = world.diagram.things
            lots = lots_within(things)
            draw = random.Random(seed)
            for lot in lots if len(things) < 3 else draw.sample(lots, 4) + [()]:
                deed = draw.choice(all_deeds(world.sizes, lot))
                shares = plain_done(world, deed)
                table = done(world, deed)
                self.assertEqual(table.things, things)
                self.assertEqual(table.sizes, world.sizes)
                self.assertEqual(as_fractions(table), shares)
                self.assertEqual(table.share({}), (1, 1))
                for row, share in shares.items():
                    agrees = all(row[things.index(thing)] == value for thing, value in deed.items())
                    self.assertIs(share > 0, agrees and world.full)

    def test_done_worlds(self):
        for seed, world in enumerate(worlds()):
            diagram = world.diagram
            draw = random.Random(seed)
            for lot in draw.sample(lots_within(diagram.things), min(4, 2 ** len(diagram))):
                deed = draw.choice(all_deeds(world.sizes, lot))
                after = done_world(world, deed)
                self.assertEqual(after.diagram, diagram.cut(lot))
                self.assertEqual(after.seen, done(world, deed))
                self.assertEqual(after.sizes, world.sizes)
                self.assertEqual(after.hidden, {bow: world.hidden[bow] for bow in after.diagram.bows})
                for thing in diagram.things:
                    if thing in deed:
                        shares = tuple((1, 1) if v == deed[thing] else (0, 1) for v in range(world.sizes[thing]))
                        self.assertEqual(after.tables[thing], {(): shares})
                    elif not set(diagram.bowed(thing)) & set(lot):
                        self.assertEqual(after.tables[thing], world.tables[thing])
                # One deed behind another one.
                other = draw.choice(all_deeds(world.sizes, draw.choice(lots_within(diagram.things))))
                self.assertEqual(done_world(after, other).seen, done(world, {**deed, **other}))
                self.assertEqual(done(after, other), done(world, {**deed, **other}))

    def test_summed_out_tables(self):
        world = some_world(FRONT, 3, (2, 3), (3,))
        bow = ("x", "y")
        after = done_world(world, {"x": 1})
        for head in range(world.sizes["z"]):
            for value in range(world.sizes["y"]):
                whole = sum((Fraction(*world.hidden[bow][k]) * Fraction(*world.tables["y"][(head, k)][value]) for k in range(3)),
                            Fraction(0))
                self.assertEqual(Fraction(*after.tables["y"][(head,)][value]), whole)
        self.assertEqual(done_world(world, {"z": 0}).hidden, world.hidden)

    def test_empty_and_whole_deeds(self):
        for world in worlds():
            self.assertEqual(done(world, {}), world.seen)
            self.assertEqual(done_world(world, {}), world)
            whole = {thing: world.sizes[thing] - 1 for thing in world.diagram.things}
            table = done(world, whole)
            self.assertEqual(table.share(whole), (1, 1))
            self.assertEqual(done_world(world, whole).diagram, Diagram(world.diagram.things))

    def test_what_is_not_behind_stays(self):
        for seed, world in enumerate(worlds()):
            diagram = world.diagram
            for lot in lots_within(diagram.things, 1)[:-1]:
                rest = tuple(t for t in diagram.things if t not in diagram.with_behind(lot))
                if rest:
                    deed = {thing: seed % world.sizes[thing] for thing in lot}
                    self.assertEqual(done(world, deed).summed(rest), world.seen.summed(rest))

    def test_things_with_all_parents_set(self):
        world = some_world(DIAMOND, 2)
        for deed in all_deeds(world.sizes, ("b", "c")):
            row = tuple(deed[thing] for thing in ("b", "c"))
            table = done(world, deed).summed(("d",))
            self.assertEqual(tuple(table.share({"d": v}) for v in range(world.sizes["d"])), world.tables["d"][row])

    def test_without_bows(self):
        """[12.3]."""
        for seed, diagram in enumerate([FORK, MEET, BACK, DIAMOND] + list(some_diagrams(4, 4, 3, 0.6, 0))):
            world = some_world(diagram, seed, (2,))
            for lot in lots_within(diagram.things)[::3]:
                deed = {thing: 1 for thing in lot}
                table = done(world, deed)
                for row, share in world.seen.shares.items():
                    worth = dict(zip(diagram.things, row))
                    if all(worth[thing] == 1 for thing in lot):
                        whole = Fraction(*share)
                        for thing in lot:
                            whole /= Fraction(*world.seen.share_given({thing: 1}, {p: worth[p] for p in diagram.parents(thing)}))
                        self.assertEqual(Fraction(*table.share(worth)), whole)

    def test_too_great_bottoms(self):
        prime = 999983
        hidden = {("x", "y"): ((1, prime), (prime - 1, prime))}
        half = ((1, 2), (1, 2))
        tables = {"x": {(h,): half for h in (0, 1)}, "y": {(x, h): half if h else ((1, 3), (2, 3)) for x in (0, 1) for h in (0, 1)}}
        world = World(BOW, {"x": 2, "y": 2}, hidden, tables)
        with self.assertRaises(TooMany) as caught:
            done_world(world, {"x": 0})
        self.assertEqual(caught.exception.limit, 1000000)
        self.assertEqual(as_fractions(done(world, {"x": 0})), plain_done(world, {"x": 0}))
        self.assertEqual(done_world(world, {"y": 0}).seen, done(world, {"y": 0}))
        with self.assertRaises(InvalidDeed):
            done_world(world, {"x": 2})

    def test_is_deed_and_errors(self):
        sizes = {"a": 2, "b": 3}
        for value in ({}, {"a": 0}, {"a": 1, "b": 2}, {"b": 0, "a": 0}):
            self.assertIs(is_deed(sizes, value), True)
        no_deeds = ({"a": 2}, {"a": -1}, {"b": 3}, {"a": True}, {"b": False}, {"c": 0}, {"a": None}, {"a": (0,)}, {"a": "0"},
                    {("a",): 0}, [("a", 0)], {"a": 0, "q": 0}, {0: 0}) + tuple(value for value in ODDER if value != {})
        for value in no_deeds:
            self.assertIs(is_deed(sizes, value), False)
        no_sizes = (None, {}, {"a": 1}, {"a": 17}, {"a": True}, {"A": 2}, dict.fromkeys("abcd", 9), dict.fromkeys("abcdefg", 2), [("a", 2)], "a", 0)
        check_errors(self, is_deed, (sizes, {}), {0: (InvalidTable, no_sizes)})
        world = even_world(Diagram(("a", "b")))
        for call in (done, done_world):
            check_errors(self, call, (world, {}), {0: (InvalidWorld, NO_WORLDS), 1: (InvalidDeed, no_deeds)})


class RuleTest(unittest.TestCase):
    def test_rules_and_breaking_worlds(self):
        told = set()
        for diagram, quadruples in rule_cases():
            for x, y, z, w in quadruples:
                for rule in RULES:
                    holds = does_rule_hold(diagram, rule, x, y, z, w)
                    told.add((rule, holds))
                    self.assertIs(holds, plain_holds(diagram, rule, x, y, z, w))
                    world = breaking_world(diagram, rule, x, y, z, w)
                    self.assertIs(world is None, holds)
                    self.assertIs(is_breaking(diagram, rule, x, y, z, w, world), not holds)
                    if world is not None:
                        self.assertEqual(world.diagram, diagram)
                        self.assertIs(world.full, True)
        self.assertEqual(len(told), 6)

    def test_breaking_by_sums(self):
        for seed, diagram in enumerate(list(small_diagrams())[::9] + list(some_diagrams(10, 4, 19, 0.5, 0.25))):
            for x, y, z, w in some_quadruples(diagram.things, 3, seed):
                world = some_world(diagram, seed, (2,), (2,) if len(diagram.bows) < 4 else (1,))
                for rule in RULES:
                    holds = does_rule_hold(diagram, rule, x, y, z, w)
                    breaks = plain_breaks(world, rule, x, y, z, w)
                    self.assertFalse(holds and breaks)
                    self.assertIs(is_breaking(diagram, rule, x, y, z, w, world), breaks)
                    made = breaking_world(diagram, rule, x, y, z, w)
                    if made is not None:
                        self.assertTrue(plain_breaks(made, rule, x, y, z, w))

    def test_deed_by_a_look_at_what_comes_of_it(self):
        """No open trail leaves z by an arrow: the world is that of a trail to z, and of a way from there to w."""
        diagram = Diagram(("a", "b", "c", "d"), (("a", "b"), ("a", "c"), ("b", "d")))
        args = ((), ("c",), ("b",), ("d",))
        self.assertIs(does_rule_hold(diagram, "deed", *args), False)
        world = breaking_world(diagram, "deed", *args)
        self.assertIs(is_breaking(diagram, "deed", *args, world), True)
        self.assertEqual(world, sum_world(diagram, diagram.arrows, ()))
        # The first trail is not open, as its inner thing is looked at.
        wide = Diagram(("a", "b", "c", "d", "e"), (("a", "b"), ("a", "c"), ("b", "d"), ("e", "b"), ("e", "c")))
        wider = ((), ("c",), ("b",), ("a", "d"))
        self.assertTrue(plain_breaks(breaking_world(wide, "deed", *wider), "deed", *wider))
        # Nothing is looked at: then the deed brings nothing.
        self.assertIs(does_rule_hold(diagram, "deed", (), ("c",), ("b",), ()), True)
        # The way to w goes over a further thing of z.
        longer = Diagram(("a", "b", "c", "d", "e"), (("a", "b"), ("a", "c"), ("b", "e"), ("e", "d")))
        args = ((), ("c",), ("b", "e"), ("d",))
        self.assertTrue(plain_breaks(breaking_world(longer, "deed", *args), "deed", *args))

    def test_a_deed_that_changes_nothing_by_itself(self):
        # A deed on b brings nothing to c, but it does for those who look at d.
        diagram = Diagram(("a", "b", "c", "d"), (("a", "b"), ("a", "c"), ("b", "d")))
        self.assertIs(does_rule_hold(diagram, "deed", (), ("c",), ("b",), ()), True)
        self.assertIs(does_rule_hold(diagram, "deed", (), ("c",), ("b",), ("d",)), False)

    def test_deeds_where_no_open_trail_leaves_by_an_arrow(self):
        found = 0
        draw = random.Random(7)
        for diagram in some_diagrams(1800, 5, 29, 0.5, 0.15):
            x, y, z, w = draw.choice(self.QUADRUPLES)
            if does_rule_hold(diagram, "deed", x, y, z, w) or not plain_barred(
                    diagram.cut(tuple(sorted(x + z))), y, z, tuple(sorted(x + w))):
                continue
            found += 1
            world = breaking_world(diagram, "deed", x, y, z, w)
            self.assertIs(is_breaking(diagram, "deed", x, y, z, w, world), True)
        self.assertGreater(found, 40)

    QUADRUPLES = [args for args in all_quadruples(("a", "b", "c", "d", "e")) if args[3] and len(args[2]) < 3]

    def test_free_things_of_which_a_deed_changes_one(self):
        # y is x and the hidden bit together, and x is that bit: y is seen alike whatever x is.
        world = World(BOW, {"x": 2, "y": 2}, {("x", "y"): ((1, 2), (1, 2))}, {
            "x": {(h,): ((3 - 2 * h, 4), (1 + 2 * h, 4)) for h in (0, 1)},
            "y": {(0, 0): ((3, 4), (1, 4)), (0, 1): ((1, 4), (3, 4)), (1, 0): ((1, 8), (7, 8)), (1, 1): ((19, 24), (5, 24))}})
        self.assertIs(world.full, True)
        self.assertIs(world.seen.is_free(("x",), ("y",), ()), True)
        one, other = [done(world, {"x": value}).summed(("y",)) for value in (0, 1)]
        self.assertNotEqual(one, other)

    def test_rules_in_known_diagrams(self):
        self.assertIs(does_rule_hold(BACK, "swap", (), ("y",), ("x",), ()), False)
        self.assertIs(does_rule_hold(BACK, "swap", (), ("y",), ("x",), ("u",)), True)
        self.assertIs(does_rule_hold(FRONT, "swap", (), ("z",), ("x",), ()), True)
        self.assertIs(does_rule_hold(FRONT, "swap", ("x",), ("y",), ("z",), ()), True)
        self.assertIs(does_rule_hold(FRONT, "deed", ("z",), ("y",), ("x",), ()), True)
        self.assertIs(does_rule_hold(FRONT, "look", ("z",), ("y",), ("x",), ()), False)
        self.assertIs(does_rule_hold(MEET, "look", (), ("a",), ("c",), ()), True)
        self.assertIs(does_rule_hold(MEET, "look", (), ("a",), ("c",), ("b",)), False)

    def test_judge(self):
        args = (BOW, "swap", (), ("y",), ("x",), ())
        world = breaking_world(*args)
        arrows, bows = joints_of(BOW, ("x", "-", "y"), {})
        more = Diagram(BOW.things, BOW.arrows, ())
        sure = World(BOW, {"x": 2, "y": 2}, {("x", "y"): ((1, 2), (1, 2))}, {
            "x": {(h,): ((1 - h, 1), (h, 1)) for h in (0, 1)}, "y": {(x, h): ((1 - h, 1), (h, 1)) for x in (0, 1) for h in (0, 1)}})
        check_judge(self, lambda value: is_breaking(*args, value), [world, sum_world(BOW, arrows, bows), some_world(BOW, 4, (2, 3), (3,))], [
            even_world(BOW), sure, sum_world(more, more.arrows, ()), sum_world(FRONT, (), FRONT.bows), world.seen, (world,)])
        self.assertIs(is_breaking(BOW, "look", (), ("y",), ("x",), (), world), True)
        # A world of another diagram does not count, even with the same tables.
        loose = Diagram(("x", "y"), (("x", "y"),))
        same = sum_world(loose, loose.arrows, ())
        self.assertIs(is_breaking(loose, "look", (), ("y",), ("x",), (), same), True)
        self.assertIs(is_breaking(BOW, "look", (), ("y",), ("x",), (), same), False)

    def test_larger_numbers_of_values(self):
        for seed, diagram in enumerate((FRONT, BACK, DIAMOND)):
            world = some_world(diagram, seed, (2, 3), (3,))
            for x, y, z, w in some_quadruples(diagram.things, 4, seed):
                for rule in RULES:
                    self.assertIs(is_breaking(diagram, rule, x, y, z, w, world), plain_breaks(world, rule, x, y, z, w))

    def test_errors(self):
        good = (DIAMOND, "look", ("a",), ("b",), ("c",), ("d",))
        no_rules = ODDER + ("Look", "done", ("look",), ["look"], "looks")
        some = NO_LOTS + ((),)
        wrong = {0: (InvalidDiagram, NO_DIAGRAMS), 1: (InvalidOperation, no_rules), 2: (InvalidLot, NO_LOTS), 3: (InvalidLot, some),
                 4: (InvalidLot, some), 5: (InvalidLot, NO_LOTS)}
        for call in (does_rule_hold, breaking_world):
            check_errors(self, call, good, wrong)
        check_errors(self, is_breaking, good + (None,), wrong)
        for x, y, z, w in ((("a",), ("a",), ("c",), ()), (("a",), ("b",), ("a",), ()), (("a",), ("b",), ("b",), ()),
                           (("a",), ("b",), ("c",), ("a",)), ((), ("b",), ("c",), ("b",)), ((), ("b",), ("c", "d"), ("d",))):
            for rule in RULES:
                with self.assertRaises(InvalidLot):
                    does_rule_hold(DIAMOND, rule, x, y, z, w)
                with self.assertRaises(InvalidLot):
                    is_breaking(DIAMOND, rule, x, y, z, w, None)
        self.assertIs(does_rule_hold(DIAMOND, "look", (), ("b",), ("c",), ()), False)


if __name__ == "__main__":
    unittest.main()
