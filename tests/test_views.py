"""Stage 23: views, lifted worlds, and what may be hidden."""
import itertools
import random
import unittest
from fractions import Fraction

from seenanddone.ask.questions import decide
from seenanddone.deed.deeds import done
from seenanddone.deed.twins import is_told, twins_of
from seenanddone.errors import InvalidDiagram, InvalidLot, InvalidOperation, InvalidQuestion, InvalidWorld, TooMany
from seenanddone.house.views import View, hiding_lots, is_hiding_lot, lifted
from seenanddone.web.diagrams import Diagram
from seenanddone.web.hiding import carrier, projected
from seenanddone.world.worlds import World, even_world
from tests.helper import (
    BACK, BOW, DIAMOND, FORK, FRONT, MEET, NO_DIAGRAMS, NO_LOTS, ODDER, check_errors, check_judge, lots_within, rows_of,
    small_diagrams, some_diagrams, some_effects, some_world)
from tests.test_questions import questions_of

SIX = ("a", "b", "c", "d", "e", "f")
EVEN = ((1, 2), (1, 2))


def cases():
    for seed, diagram in enumerate(itertools.chain(
            list(small_diagrams())[::3], some_diagrams(40, 4, 231, 0.5, 0.3), some_diagrams(25, 5, 232, 0.4, 0.25), some_diagrams(12, 6, 233, 0.35, 0.2))):
        lots = lots_within(diagram.things, 1)
        for seen in random.Random(seed).sample(lots, min(4, len(lots))):
            yield seed, diagram, seen


class ViewTest(unittest.TestCase):
    def test_answers_are_those_of_the_projected_diagram(self):
        for seed, diagram, seen in cases():
            view = View(diagram, seen)
            self.assertEqual((view.diagram, view.seen, view.projected), (diagram, seen, projected(diagram, seen)))
            self.assertEqual(view.hidden, tuple(t for t in diagram.things if t not in seen))
            for question in list(questions_of(view.projected, seed, 2))[:6]:
                verdict, paper = decide(view.projected, question)
                self.assertEqual(view.decide(question), (verdict, paper))
                self.assertIs(view.is_paper(question, verdict, paper), True)
                self.assertIs(view.is_paper(question, not verdict, paper), False)

    def test_narrowed_and_pooled(self):
        for seed, diagram, seen in cases():
            view = View(diagram, seen)
            for lot in lots_within(seen, 1)[:4]:
                self.assertEqual(view.narrowed(lot), View(diagram, lot))
                self.assertEqual(view.narrowed(lot).diagram, diagram)
            other = View(diagram, diagram.things[seed % len(diagram):][:2])
            self.assertEqual(view.pooled(other).seen, tuple(sorted(set(seen) | set(other.seen))))
            self.assertEqual(view.pooled(other), other.pooled(view))
        with self.assertRaises(InvalidOperation):
            View(FORK, ("a",)).pooled(View(MEET, ("a",)))

    def test_verdicts_of_two_views(self):
        """[23.2]"""
        for seed, diagram, seen in list(cases())[::2]:
            less, more = View(diagram, seen), View(diagram, diagram.things)
            for question in questions_of(less.projected, seed, 2):
                if question[0] in ("free", "adjusts"):
                    self.assertEqual(less.decide(question)[0], more.decide(question)[0])
                elif question[0] == "told" and less.decide(question)[0]:
                    self.assertTrue(more.decide(question)[0])

    def test_properties_and_words(self):
        view = View(FRONT, ("x", "y"))
        self.assertEqual([view.projected == BOW, view.hidden, len(view), str(view)], [True, ("z",), 2, "view of 2 of 3 things"])
        self.assertEqual([value in view for value in ("x", "z", "q", None, [], {}, ("x",))], [True] + [False] * 6)
        self.assertTrue(view == View(FRONT, ("x", "y")) and not view != View(FRONT, ("x", "y")))
        self.assertFalse(view == View(FRONT, ("x",)) or view == View(BACK, ("x", "y")) or any(view == value for value in ODDER))
        with self.assertRaises(TypeError):
            iter(view)

    def test_errors(self):
        check_errors(self, View, (FRONT, ("x", "y")), {0: (InvalidDiagram, NO_DIAGRAMS), 1: (InvalidLot, NO_LOTS + ((),))})
        view = View(FRONT, ("x", "y"))
        check_errors(self, view.narrowed, (("x",),), {0: (InvalidLot, NO_LOTS + ((), ("z",), ("x", "z")))})
        check_errors(self, view.pooled, (view,), {0: (InvalidOperation, ODDER + (View(BACK, ("x", "y")),))})
        check_errors(self, view.decide, (("told", ("x",), ("y",)),), {0: (InvalidQuestion, ODDER + (("told", ("x",), ("z",)), ("same", ())))})
        check_errors(self, view.is_paper, (("told", ("x",), ("y",)), True, None), {
            0: (InvalidQuestion, ODDER + (("told", ("x",), ("z",)),)), 1: (InvalidOperation, tuple(v for v in ODDER if not isinstance(v, bool)))})


def plain_heeds(world, cause, effect):
    reads = [a for a, b in world.diagram.arrows if b == effect]
    at = reads.index(cause)
    rows = world.tables[effect]
    return any(rows[one] != rows[two] for one in rows for two in rows if one[:at] + one[at + 1:] == two[:at] + two[at + 1:])


def plain_sizes(diagram, seen, world):
    """The numbers of values that [23.3] tells for things and for bows."""
    joints = [((a, ">", b), world.sizes[a]) for a, b in world.diagram.arrows if plain_heeds(world, a, b)]
    joints += [((a, "-", b), len(world.hidden[(a, b)])) for a, b in world.diagram.bows if len(world.hidden[(a, b)]) > 1]
    things = {t: 1 for t in diagram.things if t not in seen}
    bows = dict.fromkeys(diagram.bows, 1)
    for joint, many in joints:
        trail = carrier(diagram, seen, joint)
        for thing in trail[2:-1:2]:
            things[thing] *= many
        for at in range(1, len(trail), 2):
            if trail[at] == "-":
                bows[tuple(sorted((trail[at - 1], trail[at + 1])))] *= many
    return {**world.sizes, **{thing: max(2, many) for thing, many in things.items()}}, bows


def limit_of(sizes, bows):
    """The first limit that sizes pass."""
    product = 1
    for many in sizes.values():
        product *= many
    hidden = 1
    for many in bows.values():
        hidden *= many
    if max([*sizes.values(), *bows.values()]) > 16:
        return 16
    if product > 4096:
        return 4096
    return 256 if hidden > 256 else None


class LiftedTest(unittest.TestCase):
    def check(self, diagram, seen, world, draw):
        whole = lifted(diagram, seen, world)
        self.assertEqual(whole.diagram, diagram)
        self.assertEqual(whole.seen.summed(seen), world.seen)
        for lot in draw.sample(lots_within(seen, 1), min(3, 2 ** len(seen) - 1)):
            deed = {thing: draw.randrange(world.sizes[thing]) for thing in lot}
            self.assertEqual(done(whole, deed).summed(seen), done(world, deed))
        return whole

    def test_seen_and_done_tables(self):
        lifts = with_bows = 0
        for seed, diagram, seen in cases():
            draw = random.Random(seed)
            world = some_world(projected(diagram, seen), seed, (2, 3) if len(seen) < 4 else (2,), (1, 2, 3) if len(seen) < 4 else (1, 2))
            sizes, bows = plain_sizes(diagram, seen, world)
            limit = limit_of(sizes, bows)
            if limit is not None:
                with self.assertRaises(TooMany) as caught:
                    lifted(diagram, seen, world)
                self.assertEqual(caught.exception.limit, limit)
                continue
            whole = self.check(diagram, seen, world, draw)
            self.assertEqual((whole.sizes, {bow: len(shares) for bow, shares in whole.hidden.items()}), (sizes, bows))
            lifts += 1
            with_bows += any(many > 1 for many in bows.values())
        self.assertGreater(min(lifts, with_bows), 50)

    def test_carriers_of_two_and_more_joints(self):
        shapes = {
            "chain": (("a", "b", "c", "d"), (("a", "b"), ("b", "c"), ("c", "d")), ()),
            "fork": (("a", "b", "c", "d"), (("b", "a"), ("b", "c"), ("c", "d")), ()),
            "bow": (("a", "b", "c", "d"), (("b", "a"), ("c", "d")), (("b", "c"),)),
            "first": (("a", "b", "d"), (("b", "d"),), (("a", "b"),)),
            "last": (("a", "b", "d"), (("b", "a"),), (("b", "d"),)),
            "both": (("a", "b", "c", "d"), (("a", "b"), ("b", "d"), ("c", "b"), ("c", "d")), (("a", "b"), ("a", "d"))),
        }
        for name, parts in shapes.items():
            diagram = Diagram(*parts)
            world = some_world(projected(diagram, ("a", "d")), len(name), (3,), (3,))
            whole = self.check(diagram, ("a", "d"), world, random.Random(1))
            if name == "chain":
                self.assertEqual(whole.sizes, dict.fromkeys("abcd", 3))
            if name == "bow":
                self.assertEqual((whole.sizes, whole.hidden), (dict.fromkeys("abcd", 3), {("b", "c"): world.hidden[("a", "d")]}))

    def test_two_parts_of_one_thing(self):
        # All that c carries goes on over it: its values are the rows of its parts.
        diagram = Diagram(("a", "b", "c", "d"), (("a", "c"), ("b", "c"), ("c", "d")))
        world = some_world(projected(diagram, ("a", "b", "d")), 3, (3,))
        self.assertEqual(self.check(diagram, ("a", "b", "d"), world, random.Random(2)).sizes, {"a": 3, "b": 3, "c": 9, "d": 3})

    def test_what_is_not_heeded_goes_nowhere(self):
        diagram = Diagram(("a", "b", "c"), (("a", "b"), ("b", "c")), (("a", "b"),))
        base = projected(diagram, ("a", "c"))
        self.assertEqual((base.arrows, base.bows), ((("a", "c"),), (("a", "c"),)))
        world = World(base, {"a": 9, "c": 2}, {("a", "c"): ((1, 1),)}, {
            "a": {(0,): ((1, 9),) * 9}, "c": {(value, 0): ((1, 3), (2, 3)) for value in range(9)}})
        whole = self.check(diagram, ("a", "c"), world, random.Random(3))
        self.assertEqual((whole.sizes, whole.hidden), ({"a": 9, "b": 2, "c": 2}, {("a", "b"): ((1, 1),)}))
        self.assertEqual(set(whole.tables["b"].values()), {EVEN})

    def test_one_cause_of_two_is_heeded(self):
        diagram = Diagram(("a", "b", "c", "d", "e"), (("a", "d"), ("b", "e"), ("d", "c"), ("e", "c")))
        base = projected(diagram, ("a", "b", "c"))
        fair = {(): ((1, 3),) * 3}
        for place, sizes in ((0, {"d": 3, "e": 2}), (1, {"d": 2, "e": 3})):
            table = {row: ((1, 2), (1, 2)) if row[place] else ((1, 3), (2, 3)) for row in rows_of([3, 3])}
            whole = self.check(diagram, ("a", "b", "c"), World(base, {"a": 3, "b": 3, "c": 2}, {}, {"a": fair, "b": fair, "c": table}), random.Random(5))
            self.assertEqual(whole.sizes, {"a": 3, "b": 3, "c": 2, **sizes})

    def test_just_as_many_rows_as_can_be(self):
        diagram = Diagram(SIX, (("a", "e"), ("b", "f"), ("e", "c"), ("f", "d")))
        base = projected(diagram, ("a", "b", "c", "d"))
        shares = [tuple(((1, 8), (1, 8), (1, 4), (1, 2))[at:] + ((1, 8), (1, 8), (1, 4), (1, 2))[:at]) for at in range(4)]
        tables = {t: {(): shares[0]} if t in "ab" else {(at,): shares[at] for at in range(4)} for t in "abcd"}
        self.assertEqual(len(lifted(diagram, ("a", "b", "c", "d"), World(base, dict.fromkeys("abcd", 4), {}, tables))), 4096)

    def test_limits_in_their_order(self):
        def limit(diagram, seen, sizes, hidden, shares=None):
            base = projected(diagram, seen)
            draw = random.Random(1)
            held = {bow: shares or tuple((1, hidden) for _ in range(hidden)) for bow in base.bows}
            tables = {}
            for thing in base.things:
                counts = [sizes[a] for a, b in base.arrows if b == thing] + [len(held[bow]) for bow in base.bows if thing in bow]
                tables[thing] = {}
                for row in rows_of(counts):
                    tops = [draw.randint(1, 3) for _ in range(sizes[thing] - 1)]
                    share = [Fraction(top, 60) for top in tops + [60 - sum(tops)]]
                    tables[thing][row] = tuple((part.numerator, part.denominator) for part in share)
            with self.assertRaises(TooMany) as caught:
                lifted(diagram, seen, World(base, sizes, held, tables))
            return caught.exception.limit
        meet = Diagram(("a", "b", "c", "d"), (("a", "d"), ("b", "d"), ("d", "c")))
        self.assertEqual(limit(meet, ("a", "b", "c"), {"a": 5, "b": 4, "c": 2}, 1), 16)
        bowed = Diagram(("a", "b", "c", "d"), (("b", "a"), ("b", "c")), (("b", "d"),))
        self.assertEqual(limit(bowed, ("a", "c", "d"), {"a": 2, "c": 2, "d": 2}, 5), 16)
        # Many rows, yet no thing with many values.
        wide = Diagram(SIX, (("a", "e"), ("b", "f"), ("e", "c"), ("f", "d")))
        self.assertEqual(limit(wide, ("a", "b", "c", "d"), {"a": 8, "b": 8, "c": 8, "d": 2}, 1), 4096)
        # Greater bottoms: two parts are drawn at one thing.
        source = Diagram(("a", "b", "c", "d"), (("d", "a"), ("d", "b"), ("d", "c")))
        long = ((1, 1009), (1008, 1009))
        self.assertEqual(limit(source, ("a", "b", "c"), dict.fromkeys("abc", 2), 2, long), 1000000)
        self.assertEqual(limit(source, ("a", "b", "c"), dict.fromkeys("abc", 9), 2, long), 4096)
        self.assertEqual(limit(source, ("a", "b", "c"), dict.fromkeys("abc", 2), 3, ((1, 1009), (8, 1009), (1000, 1009))), 16)

    def test_hidden_things_of_bows(self):
        # Each bow of the projected diagram goes over one bow at most, so that there are never more rows of hidden things.
        held = {bow: EVEN if at < 8 else ((1, 1),) for at, bow in enumerate(itertools.combinations(SIX, 2))}
        whole = Diagram(SIX, (), tuple(held))
        tables = {t: {row: EVEN for row in rows_of([len(held[bow]) for bow in held if t in bow])} for t in SIX}
        world = World(whole, dict.fromkeys(SIX, 2), held, tables)
        self.assertEqual(lifted(whole, SIX, world), world)
        # The bow of u and v is on the carriers of two bows, and has the rows of both parts.
        both = Diagram(("a", "b", "c", "u", "v"), (("u", "a"), ("v", "b"), ("v", "c")), (("u", "v"),))
        base = projected(both, ("a", "b", "c"))
        for many, right in ((4, 16), (5, None)):
            held = {("a", "b"): ((1, many),) * many, ("a", "c"): ((1, 4),) * 4, ("b", "c"): ((1, 1),)}
            tables = {t: {row: EVEN for row in rows_of([len(held[bow]) for bow in base.bows if t in bow])} for t in "abc"}
            world = World(base, dict.fromkeys("abc", 2), held, tables)
            if right is None:
                with self.assertRaises(TooMany) as caught:
                    lifted(both, ("a", "b", "c"), world)
                self.assertEqual(caught.exception.limit, 16)
                continue
            lift = self.check(both, ("a", "b", "c"), world, random.Random(4))
            self.assertEqual((len(lift.hidden[("u", "v")]), lift.sizes), (16, {"a": 2, "b": 2, "c": 2, "u": 16, "v": 16}))

    def test_twins_come_of_twins(self):
        """[23.4]"""
        for seed, diagram in enumerate(list(some_diagrams(40, 4, 234, 0.5, 0.3)) + [FRONT]):
            for seen in lots_within(diagram.things, 2):
                base = projected(diagram, seen)
                for x, y in some_effects(seen, 3, seed):
                    if not is_told(base, x, y):
                        try:
                            one, other = [lifted(diagram, seen, world) for world in twins_of(base, x, y)]
                        except TooMany:
                            continue
                        self.assertEqual(one.seen.summed(seen), other.seen.summed(seen))
                        lot = tuple(sorted(x + y))
                        deeds = [dict(zip(x, row)) for row in rows_of([one.sizes[t] for t in x])]
                        self.assertTrue(any(done(one, deed).summed(lot) != done(other, deed).summed(lot) for deed in deeds))

    def test_errors(self):
        world = even_world(BOW)
        others = tuple(value for value in ODDER if not isinstance(value, World)) + (even_world(FORK), even_world(FRONT), BOW)
        check_errors(self, lifted, (FRONT, ("x", "y"), world), {0: (InvalidDiagram, NO_DIAGRAMS), 1: (InvalidLot, NO_LOTS + ((),)), 2: (InvalidWorld, others)})
        self.assertEqual(lifted(FRONT, ("x", "y", "z"), even_world(FRONT)).seen, even_world(FRONT).seen)


class HidingTest(unittest.TestCase):
    def test_against_all_lots(self):
        told = set()
        for seed, diagram in enumerate(list(small_diagrams())[::3] + list(some_diagrams(25, 4, 235, 0.5, 0.25)) + list(some_diagrams(6, 5, 236, 0.5, 0.2))):
            for x, y in some_effects(diagram.things, 4, seed):
                rest = [t for t in diagram.things if t not in x + y]
                for may in (tuple(rest), tuple(rest[1:]), ()):
                    lots = lots_within(may)
                    hides = {lot: not is_told(projected(diagram, tuple(t for t in diagram.things if t not in lot)), x, y) for lot in lots}
                    least = tuple(sorted(lot for lot in lots if hides[lot] and not any(hides[tuple(t for t in lot if t != one)] for one in lot)))
                    self.assertEqual(hiding_lots(diagram, x, y, may), least)
                    told.add(min(2, max(map(len, least), default=-1)))
                    for lot in lots:
                        self.assertIs(is_hiding_lot(diagram, x, y, may, lot), lot in least)
                        # [23.5]
                        self.assertEqual(hides[lot], any(set(one) <= set(lot) for one in least))
        self.assertLessEqual({-1, 0, 1}, told)

    def test_examples_and_judge(self):
        self.assertEqual(hiding_lots(FRONT, ("x",), ("y",), ("z",)), (("z",),))
        self.assertEqual([hiding_lots(FRONT, ("x",), ("y",), ()), hiding_lots(BOW, ("x",), ("y",), ()), hiding_lots(FRONT, (), ("y",), ("x", "z"))], [(), ((),), ()])
        check_judge(self, lambda value: is_hiding_lot(FRONT, ("x",), ("y",), ("z",), value), [("z",)], [("x",), ["z"], "z", (("z",),), ("z", "z")])
        self.assertIs(is_hiding_lot(BOW, ("x",), ("y",), (), ()), True)

    def test_errors(self):
        wrong = {0: (InvalidDiagram, NO_DIAGRAMS), 1: (InvalidLot, NO_LOTS), 2: (InvalidLot, NO_LOTS + ((), ("a",))), 3: (InvalidLot, NO_LOTS + (("a",), ("d",), ("b", "d")))}
        check_errors(self, hiding_lots, (DIAMOND, ("a",), ("d",), ("b",)), wrong)
        check_errors(self, is_hiding_lot, (DIAMOND, ("a",), ("d",), ("b",), None), wrong)
        # Also where nothing need be hidden.
        for may in (("x",), ("y",), ("x", "z"), ("y", "z")):
            with self.assertRaises(InvalidLot):
                hiding_lots(Diagram(("x", "y", "z"), (("x", "y"),), (("x", "y"),)), ("x",), ("y",), may)


if __name__ == "__main__":
    unittest.main()
