"""Stage 14: knots and twins."""
import itertools
import random
import unittest

from seenanddone.deed.deeds import done
from seenanddone.deed.steps import is_steps, leading, pieces, steps_of, told_by_steps
from seenanddone.deed.twins import are_twins, is_knot, is_told, knot_of, twins_of, unlike_deed
from seenanddone.errors import InvalidDiagram, InvalidLot, InvalidOperation
from seenanddone.web.diagrams import Diagram
from seenanddone.world.worlds import World, even_world
from tests.helper import (
    BACK, BOW, DIAMOND, FRONT, NO_DIAGRAMS, NO_LOTS, ODDER, all_deeds, all_effects, check_errors, check_judge, lots_within,
    plain_done, plain_sums, small_diagrams, some_diagrams, some_effects, some_world)
from tests.test_steps import plain_districts, plain_leading

# What a deed on x brings to y alone and to z alone is told, but not to both.
PAIR = Diagram(("x", "y", "z"), (("x", "y"),), (("x", "z"), ("y", "z")))


def cases():
    for diagram in list(small_diagrams())[::2]:
        yield diagram, some_effects(diagram.things, 6, len(diagram.arrows) + 5 * len(diagram.bows))
    for seed, diagram in enumerate(some_diagrams(70, 4, 71, 0.5, 0.35)):
        yield diagram, some_effects(diagram.things, 8, seed)
    for seed, diagram in enumerate(some_diagrams(15, 5, 72, 0.5, 0.35)):
        yield diagram, some_effects(diagram.things, 4, seed)


def plain_is_knot(diagram, x, y, c, t):
    """[14.1] for two lots."""
    if c not in plain_districts(diagram, plain_leading(diagram, x, y)) or not set(c) < set(t):
        return False
    come = set(c)
    for _ in t:
        come |= {a for a, b in diagram.arrows if b in come and a in t}
    return come == set(t) and len(plain_districts(diagram, t)) == 1


def with_tables(world, diagram):
    """The world in a diagram with further arrows and bows, which its tables do not heed."""
    sizes, hidden = world.sizes, {bow: world.hidden.get(bow, ((1, 1),)) for bow in diagram.bows}
    old = world.diagram
    tables = {}
    for thing in diagram.things:
        heads = [a for a, b in diagram.arrows if b == thing] + [bow for bow in diagram.bows if thing in bow]
        had = [a for a, b in old.arrows if b == thing] + [bow for bow in old.bows if thing in bow]
        spots = [heads.index(head) for head in had]
        counts = [len(hidden[head]) if head in hidden else sizes[head] for head in heads]
        tables[thing] = {
            row: world.tables[thing][tuple(row[spot] for spot in spots)]
            for row in itertools.product(*(range(many) for many in counts))}
    return World(diagram, sizes, hidden, tables)


def with_one_share(world):
    """The world with the shares of one row of one table turned about."""
    tables = world.tables
    for thing in world.diagram.things:
        for row in tables[thing]:
            if tables[thing][row] != tables[thing][row][::-1]:
                tables[thing][row] = tables[thing][row][::-1]
                return World(world.diagram, world.sizes, world.hidden, tables)


class KnotTest(unittest.TestCase):
    def test_examples(self):
        self.assertEqual(knot_of(BOW, ("x",), ("y",)), (("y",), ("x", "y")))
        self.assertIsNone(knot_of(FRONT, ("x",), ("y",)))
        self.assertEqual([is_told(BACK, ("x",), ("y",)), is_told(BOW, ("x",), ("y",))], [True, False])

    def test_steps_or_a_knot(self):
        told = set()
        for diagram, effects in cases():
            for x, y in effects:
                knot, steps = knot_of(diagram, x, y), steps_of(diagram, x, y)
                told.add(knot is None)
                self.assertIs(knot is None, steps is not None)
                self.assertIs(is_told(diagram, x, y), knot is None)
                self.assertIs(is_knot(diagram, x, y, knot), knot is not None)
                found = [
                    (c, t) for c in plain_districts(diagram, plain_leading(diagram, x, y)) for t in lots_within(diagram.things)
                    if plain_is_knot(diagram, x, y, c, t)]
                if knot is None:
                    self.assertEqual(found, [])
                else:
                    self.assertIn(knot, found)
                for value in found:
                    self.assertIs(is_knot(diagram, x, y, value), True)
                    self.assertTrue(set(value[1]) & set(x))
        self.assertEqual(told, {True, False})

    def test_judge_of_all_pairs_of_lots(self):
        for seed, diagram in enumerate(list(small_diagrams())[::9] + list(some_diagrams(10, 4, 73, 0.5, 0.4))):
            for x, y in some_effects(diagram.things, 3, seed):
                for c, t in itertools.product(lots_within(diagram.things), repeat=2):
                    self.assertIs(is_knot(diagram, x, y, (c, t)), plain_is_knot(diagram, x, y, c, t))

    def test_no_knots(self):
        for diagram in list(small_diagrams())[::3]:
            for x, y in all_effects(diagram.things):
                if x == () or not diagram.bows:
                    self.assertIsNone(knot_of(diagram, x, y))
                    self.assertIsNone(twins_of(diagram, x, y))

    def test_judge_of_other_values(self):
        check_judge(self, lambda value: is_knot(BOW, ("x",), ("y",), value), [(("y",), ("x", "y"))], [
            (("y",), ("y",)), (("x", "y"), ("y",)), [("y",), ("x", "y")], (["y"], ("x", "y")), (("y",), ["x", "y"]), (("y",), ("y", "x")),
            (("y",), ("x", "y"), ()), (("y",),), (("x",), ("x", "y")), (("y",), ("x",)), (("y",), ("x", "y", "z")), ((), ("x", "y")),
            ("y", "xy"), (("y",), None), (("y",), ("x", 1))])

    def test_further_bows(self):
        """A knot stays one if bows come that leave its piece as it is."""
        for seed, diagram in enumerate(some_diagrams(60, 4, 74, 0.5, 0.3)):
            for x, y in some_effects(diagram.things, 4, seed):
                knot = knot_of(diagram, x, y)
                for pair in itertools.combinations(diagram.things, 2):
                    if knot is not None and pair not in diagram.bows:
                        more = Diagram(diagram.things, diagram.arrows, tuple(sorted(diagram.bows + (pair,))))
                        if knot[0] in pieces(more, x, y):
                            self.assertIs(is_knot(more, x, y, knot), True)

    def test_two_effects_told_alone(self):
        x = ("x",)
        self.assertEqual([is_told(PAIR, x, ("y",)), is_told(PAIR, x, ("z",)), is_told(PAIR, x, ("y", "z"))], [True, True, False])
        pair = twins_of(PAIR, x, ("y", "z"))
        self.assertIs(are_twins(PAIR, x, ("y", "z"), pair), True)
        self.assertIs(are_twins(PAIR, x, ("y",), pair), False)

    def test_errors(self):
        wrong = {0: (InvalidDiagram, NO_DIAGRAMS), 1: (InvalidLot, NO_LOTS), 2: (InvalidLot, NO_LOTS + ((), ("a",), ("a", "b")))}
        for call in (knot_of, is_told, twins_of):
            check_errors(self, call, (DIAMOND, ("a",), ("d",)), wrong)
        for call in (is_knot, are_twins):
            check_errors(self, call, (DIAMOND, ("a",), ("d",), None), wrong)


class TwinTest(unittest.TestCase):
    def test_told_or_twins(self):
        for diagram, effects in cases():
            for x, y in effects:
                twins = twins_of(diagram, x, y)
                self.assertIs(twins is None, is_told(diagram, x, y))
                self.assertIs(are_twins(diagram, x, y, twins), twins is not None)
                if twins is not None:
                    self.check_twins(diagram, x, y, twins)

    def check_twins(self, diagram, x, y, twins):
        """[14.3], by the worlds' own sums."""
        one, other = twins
        self.assertEqual((one.diagram, other.diagram), (diagram, diagram))
        self.assertEqual(one.sizes, other.sizes)
        self.assertEqual(plain_done(one, {}), plain_done(other, {}))
        self.assertTrue(all(plain_done(one, {}).values()))
        deed, row = unlike_deed(diagram, x, y, twins)
        self.assertEqual(tuple(sorted(deed)), x)
        left, right = [plain_sums(plain_done(world, deed), diagram.things, y)[row] for world in twins]
        self.assertNotEqual(left, right)
        self.assertIs(are_twins(diagram, x, y, (other, one)), True)
        self.assertIs(are_twins(diagram, x, y, (one, one)), False)
        for spoilt in ((with_one_share(one), other), (one, with_one_share(other))):
            self.assertIs(are_twins(diagram, x, y, spoilt), False)

    def test_large_knots(self):
        """Bows that join all things, and arrows down a row: all things are in the knot."""
        for size in (3, 4, 5, 6):
            things = ("a", "b", "c", "d", "e", "f")[:size]
            row = tuple(zip(things, things[1:]))
            for diagram in (Diagram(things, row, row), Diagram(things, tuple(itertools.combinations(things, 2)), row)):
                for x, y in ((things[:1], things[-1:]), (things[1:2], things[-1:]), (things[:1], things[-2:])):
                    twins = twins_of(diagram, x, y)
                    self.assertIs(twins is None, is_told(diagram, x, y))
                    if twins is not None:
                        self.assertIs(are_twins(diagram, x, y, twins), True)
                        self.assertLessEqual(max(twins[0].sizes.values()), 16)
                        deed, at = unlike_deed(diagram, x, y, twins)
                        left, right = [done(world, deed).summed(y).shares[at] for world in twins]
                        self.assertNotEqual(left, right)

    def test_two_bits_that_are_handed_on(self):
        """A thing of the knot comes behind another one, over a thing outside of it: it has two bits, and hands on both."""
        things = ("u", "v", "w", "x", "y")
        for arrows, bows in (((("u", "v"), ("v", "y"), ("w", "u"), ("x", "w")), (("v", "w"), ("w", "x"))),
                             ((("u", "v"), ("v", "y"), ("w", "u"), ("x", "v")), (("v", "w"), ("v", "x"))),
                             ((("u", "v"), ("v", "y"), ("w", "u"), ("x", "v"), ("x", "w")), (("v", "w"), ("v", "x"), ("w", "x")))):
            diagram = Diagram(things, arrows, bows)
            for y in (("y",), ("v",), ("v", "y")):
                twins = twins_of(diagram, ("x",), y)
                self.assertIsNotNone(twins)
                self.check_twins(diagram, ("x",), y, twins)
            self.assertEqual(twins_of(diagram, ("x",), ("y",))[0].sizes["v"], 4)
        # The bit that goes on within the knot is not the one that goes on to y.
        inner = Diagram(("s", "u", "v", "w", "x"), (("u", "v"), ("v", "s"), ("w", "u"), ("x", "w")), (("s", "v"), ("v", "w"), ("w", "x")))
        twins = twins_of(inner, ("x",), ("s",))
        self.assertEqual(knot_of(inner, ("x",), ("s",)), (("s", "v", "w"), ("s", "v", "w", "x")))
        self.check_twins(inner, ("x",), ("s",), twins)
        six = Diagram(things + ("z",), (("u", "v"), ("v", "y"), ("v", "z"), ("w", "u"), ("x", "w"), ("z", "y")), (
            ("u", "z"), ("v", "w"), ("w", "x")))
        for y in (("y",), ("z",), ("v", "y")):
            self.check_twins(six, ("x",), y, twins_of(six, ("x",), y))

    def test_further_arrows_and_bows(self):
        """[14.6]."""
        draw = random.Random(1)
        for seed, diagram in enumerate(list(some_diagrams(25, 4, 75, 0.4, 0.3))):
            for x, y in some_effects(diagram.things, 4, seed):
                twins = twins_of(diagram, x, y)
                if twins is None:
                    continue
                order = diagram.order
                arrows = set(diagram.arrows) | {(a, b) for a, b in itertools.combinations(order, 2) if draw.random() < 0.4}
                bows = set(diagram.bows) | {pair for pair in itertools.combinations(diagram.things, 2) if draw.random() < 0.4}
                more = Diagram(diagram.things, tuple(sorted(arrows)), tuple(sorted(bows)))
                self.assertIs(are_twins(more, x, y, tuple(with_tables(world, more) for world in twins)), True)
                self.assertIs(is_told(more, x, y), False)
                self.assertIs(are_twins(more, x, y, twins), more == diagram)

    def test_steps_tell_the_same_for_both(self):
        """Steps of any effect use the seen table alone."""
        diagram = Diagram(("w", "x", "y"), (("w", "x"), ("x", "y")), (("x", "y"),))
        one, other = twins_of(diagram, ("x",), ("y",))
        steps = steps_of(diagram, ("w",), ("y",))
        self.assertIs(is_steps(diagram, ("w",), ("y",), steps), True)
        for deed in all_deeds(one.sizes, ("w",)):
            told = [told_by_steps(diagram, world.seen, ("w",), ("y",), steps, deed) for world in (one, other)]
            self.assertEqual(*told)
        self.assertEqual(leading(diagram, ("x",), ("y",)), ("y",))

    def test_judge(self):
        x, y = ("x",), ("y",)
        one, other = twins_of(BOW, x, y)
        bare = Diagram(BOW.things, BOW.arrows)
        sure = [World(BOW, {"x": 2, "y": 2}, {("x", "y"): ((1, 2), (1, 2))}, {
            "x": {(h,): ((1 - h, 1), (h, 1)) for h in (0, 1)},
            "y": {(p, h): ((1 - (p if by_x else h), 1), (p if by_x else h, 1)) for p in (0, 1) for h in (0, 1)}})
            for by_x in (True, False)]
        # These are seen alike and done unlike, but not full.
        self.assertEqual(sure[0].seen, sure[1].seen)
        self.assertNotEqual(done(sure[0], {"x": 0}), done(sure[1], {"x": 0}))
        check_judge(self, lambda value: are_twins(BOW, x, y, value), [(one, other), (other, one)], [
            [one, other], (one,), (one, other, other), (one, one), (one, other.seen), (one, even_world(BOW)), (even_world(BOW), other),
            (one, even_world(FRONT)), (one, None), (None, other), (one, some_world(BOW, 3, (3,))), (one, even_world(bare)), tuple(sure)])
        self.assertIs(are_twins(bare, x, y, (one, other)), False)
        self.assertIs(are_twins(BOW, y, x, (one, other)), False)
        # Worlds of two diagrams are no twins, whatever is seen in them.
        more = Diagram(("u", "x", "y"), (("u", "x"), ("x", "y")), (("x", "y"),))
        less = Diagram(more.things, more.arrows[1:], more.bows)
        first, second = twins_of(less, x, y)
        self.assertIs(are_twins(less, x, y, (first, second)), True)
        for pair in ((with_tables(first, more), second), (first, with_tables(second, more))):
            self.assertIs(are_twins(more, x, y, pair), False)
            self.assertIs(are_twins(less, x, y, pair), False)
        self.assertIs(are_twins(more, x, y, tuple(with_tables(world, more) for world in (first, second))), True)

    def test_alike_for_some_deeds(self):
        # Where x is 0 the hidden bit is left out in both worlds.
        def world(is_heeded):
            noise = [((3, 4), (1, 4)), ((1, 4), (3, 4))]
            return World(BOW, {"x": 2, "y": 2}, {("x", "y"): ((1, 2), (1, 2))}, {
                "x": {(h,): ((1 - h, 1), (h, 1)) for h in (0, 1)},
                "y": {(p, h): noise[(p + h) % 2 if p and is_heeded else 0] for p in (0, 1) for h in (0, 1)}})
        pair = (world(True), world(False))
        self.assertIs(are_twins(BOW, ("x",), ("y",), pair), True)
        deed, row = unlike_deed(BOW, ("x",), ("y",), pair)
        self.assertEqual(deed, {"x": 1})
        self.assertNotEqual(*[done(one, deed).summed(("y",)).shares[row] for one in pair])
        self.assertEqual(*[done(one, {"x": 0}) for one in pair])

    def test_errors(self):
        x, y = ("x",), ("y",)
        twins = twins_of(BOW, x, y)
        check_errors(self, unlike_deed, (BOW, x, y, twins), {
            0: (InvalidDiagram, NO_DIAGRAMS), 1: (InvalidLot, NO_LOTS), 2: (InvalidLot, NO_LOTS + ((), ("x",))),
            3: (InvalidOperation, ODDER + ((twins[0],) * 2, list(twins), twins[:1]))})


if __name__ == "__main__":
    unittest.main()
