"""Stage 15: what must be seen, and what must be ruled out."""
import itertools
import random
import unittest

from seenanddone.adjust.adjusting import is_adjusting
from seenanddone.adjust.erring import erring_world, is_erring
from seenanddone.deed.needs import (
    MAX_MET, MAX_TIES, WAYS, are_doubts, are_sights, left_open, meeting_lots, must_rule_out, must_see, still_doubtful,
    without_ties)
from seenanddone.deed.steps import is_steps, steps_of
from seenanddone.deed.twins import are_twins, is_told, twins_of
from seenanddone.errors import InvalidDiagram, InvalidLot, InvalidOperation
from seenanddone.web.diagrams import Diagram
from seenanddone.web.hiding import projected
from tests.helper import (
    BOW, DIAMOND, FRONT, NO_DIAGRAMS, NO_LOTS, ODDER, check_errors, check_judge, lots_within, small_diagrams, some_diagrams,
    some_effects)


def cases():
    for seed, diagram in enumerate(list(small_diagrams())[::5]):
        yield diagram, some_effects(diagram.things, 4, seed)
    for seed, diagram in enumerate(some_diagrams(25, 4, 91, 0.5, 0.3)):
        yield diagram, some_effects(diagram.things, 4, seed)
    for seed, diagram in enumerate(some_diagrams(6, 5, 92, 0.5, 0.2)):
        yield diagram, some_effects(diagram.things, 3, seed)


def plain_settled(diagram, x, y, by):
    if x == () or by == "steps":
        return steps_of(diagram, x, y) is not None
    rest = [t for t in diagram.things if t not in x + y]
    return any(is_adjusting(diagram, x, y, z) for z in lots_within(rest))


def ties_of(diagram):
    return tuple(("arrow",) + pair for pair in diagram.arrows) + tuple(("bow",) + pair for pair in diagram.bows)


def plain_without(diagram, ties):
    return Diagram(diagram.things, tuple(pair for pair in diagram.arrows if ("arrow",) + pair not in ties),
                   tuple(pair for pair in diagram.bows if ("bow",) + pair not in ties))


def parts_of(values):
    return [part for size in range(len(values) + 1) for part in itertools.combinations(values, size)]


def ends(parts, is_least):
    """Those parts that have none of the others within, or are within none."""
    return tuple(sorted(
        part for part in parts
        if not any((set(other) < set(part)) if is_least else (set(part) < set(other)) for other in parts)))


class SightTest(unittest.TestCase):
    def test_example(self):
        self.assertEqual(must_see(FRONT, ("x",), ("y",)), (("x", "y", "z"),))
        self.assertEqual(left_open(FRONT, ("x",), ("y",)), (("x", "y"),))
        self.assertEqual(must_see(FRONT, ("x",), ("y",), by="lot"), ())
        self.assertEqual(left_open(FRONT, ("x",), ("y",), by="lot"), (("x", "y", "z"),))

    def test_against_all_lots(self):
        told = set()
        for diagram, effects in cases():
            for (x, y), by in itertools.product(effects, WAYS):
                lots = [tuple(sorted(x + y + lot)) for lot in lots_within([t for t in diagram.things if t not in x + y])]
                settled = {lot: plain_settled(projected(diagram, lot), x, y, by) for lot in lots}
                least, greatest = must_see(diagram, x, y, by=by), left_open(diagram, x, y, by=by)
                self.assertEqual(least, ends([lot for lot in lots if settled[lot]], True))
                self.assertEqual(greatest, ends([lot for lot in lots if not settled[lot]], False))
                self.assertIs(are_sights(diagram, x, y, (least, greatest), by=by), True)
                told.add((len(least) > 0, len(greatest) > 0, by))
                # What is settled stays so if more is seen.
                for one, other in itertools.product(lots, repeat=2):
                    if set(one) <= set(other) and settled[one]:
                        self.assertTrue(settled[other])
                self.check_meeting(diagram.things, x, y, least, greatest)
            self.assertEqual(must_see(diagram, x, y), must_see(diagram, x, y, by="steps"))
            self.assertEqual(left_open(diagram, x, y), left_open(diagram, x, y, by="steps"))
        self.assertEqual(len(told), 6)

    def check_meeting(self, things, x, y, least, greatest):
        """[15.4]: each family makes the other one."""
        added = tuple(sorted(tuple(t for t in lot if t not in x + y) for lot in least))
        lacks = tuple(sorted(tuple(t for t in things if t not in lot) for lot in greatest))
        self.assertEqual(meeting_lots(lacks), added)
        self.assertEqual(meeting_lots(added), lacks)

    def test_papers_of_members(self):
        for diagram, effects in list(cases())[::3]:
            for x, y in effects[:2]:
                for lot in must_see(diagram, x, y):
                    seen = projected(diagram, lot)
                    self.assertIs(is_steps(seen, x, y, steps_of(seen, x, y)), True)
                for lot in left_open(diagram, x, y):
                    seen = projected(diagram, lot)
                    self.assertIs(are_twins(seen, x, y, twins_of(seen, x, y)), True)
                for lot in left_open(diagram, x, y, by="lot"):
                    seen = projected(diagram, lot)
                    for z in lots_within([t for t in lot if t not in x + y]):
                        self.assertIs(is_erring(seen, x, y, z, erring_world(seen, x, y, z)), True)
                # Whoever adjusts can also tell.
                for lot in must_see(diagram, x, y, by="lot"):
                    self.assertTrue(any(set(one) <= set(lot) for one in must_see(diagram, x, y)))

    def test_without_a_deed(self):
        for by in WAYS:
            self.assertEqual(must_see(BOW, (), ("y",), by=by), (("y",),))
            self.assertEqual(left_open(BOW, (), ("y",), by=by), ())
            self.assertEqual(must_see(BOW, ("x",), ("y",), by=by), ())
            self.assertEqual(left_open(BOW, ("x",), ("y",), by=by), (("x", "y"),))

    def test_judge(self):
        x, y = ("x",), ("y",)
        good = ((("x", "y", "z"),), (("x", "y"),))
        check_judge(self, lambda value: are_sights(FRONT, x, y, value), [good], [
            good[::-1], list(good), (good[0],), good + ((),), (good[0], ()), ((), good[1]), (list(good[0]), good[1]), (("x", "y", "z"), ("x", "y")),
            (good[0], (("x",), ("x", "y"))), (good[0] + (("x", "y"),), good[1]), (good[0] * 2, good[1])])
        self.assertIs(are_sights(FRONT, x, y, ((), (("x", "y", "z"),)), by="lot"), True)
        self.assertIs(are_sights(FRONT, x, y, good, by="lot"), False)

    def test_errors(self):
        no_ways = ODDER + ("Steps", "step", ("steps",), ["steps"], "lots")
        wrong = {0: (InvalidDiagram, NO_DIAGRAMS), 1: (InvalidLot, NO_LOTS), 2: (InvalidLot, NO_LOTS + ((), ("a",))), "by": (InvalidOperation, no_ways)}
        for call in (must_see, left_open):
            check_errors(self, call, (DIAMOND, ("a",), ("d",)), wrong, {"by": "lot"})
            with self.assertRaises(TypeError):
                call(DIAMOND, ("a",), ("d",), "lot")
        check_errors(self, are_sights, (DIAMOND, ("a",), ("d",), None), wrong, {"by": "steps"})
        with self.assertRaises(InvalidOperation):
            must_see(BOW, (), ("y",), by="neither")


class DoubtTest(unittest.TestCase):
    def test_without_ties(self):
        for diagram in list(small_diagrams())[::4] + list(some_diagrams(10, 5, 93)):
            ties = ties_of(diagram)
            for part in parts_of(ties)[::3]:
                self.assertEqual(without_ties(diagram, part), plain_without(diagram, part))
            self.assertEqual(without_ties(diagram, ties), Diagram(diagram.things))

    def test_against_all_tuples(self):
        told = set()
        for seed, (diagram, effects) in enumerate(cases()):
            ties = ties_of(diagram)
            draw = random.Random(seed)
            doubtful = tuple(sorted(draw.sample(ties, min(len(ties), draw.choice((0, 2, 4, 5))))))
            for (x, y), by in itertools.product(effects[:3], WAYS):
                settled = {part: plain_settled(plain_without(diagram, part), x, y, by) for part in parts_of(doubtful)}
                least = must_rule_out(diagram, x, y, doubtful, by=by)
                greatest = still_doubtful(diagram, x, y, doubtful, by=by)
                self.assertEqual(least, ends([part for part in settled if settled[part]], True))
                self.assertEqual(greatest, ends([part for part in settled if not settled[part]], False))
                self.assertIs(are_doubts(diagram, x, y, doubtful, (least, greatest), by=by), True)
                told.add((len(least) > 0, len(greatest) > 0, by))
                for part in least:
                    self.assertEqual(part, tuple(sorted(part)))
            self.assertEqual(must_rule_out(diagram, x, y, doubtful), must_rule_out(diagram, x, y, doubtful, by="steps"))
            self.assertEqual(still_doubtful(diagram, x, y, doubtful), still_doubtful(diagram, x, y, doubtful, by="steps"))
        self.assertEqual(len(told), 6)

    def test_examples(self):
        bow, arrow = ("bow", "x", "y"), ("arrow", "x", "y")
        x, y = ("x",), ("y",)
        self.assertEqual(must_rule_out(BOW, x, y, (arrow, bow)), (((arrow,), (bow,))))
        self.assertEqual(still_doubtful(BOW, x, y, (arrow, bow)), ((),))
        self.assertEqual(must_rule_out(BOW, x, y, (arrow, bow), by="lot"), ((bow,),))
        self.assertEqual(still_doubtful(BOW, x, y, (arrow, bow), by="lot"), ((arrow,),))
        self.assertEqual(must_rule_out(BOW, x, y, ()), ())
        self.assertEqual(still_doubtful(BOW, x, y, ()), ((),))
        self.assertEqual((must_rule_out(FRONT, x, y, ()), still_doubtful(FRONT, x, y, ())), (((),), ()))
        # What must be ruled out is not the same for two effects.
        self.assertNotEqual(must_rule_out(BOW, x, y, (arrow, bow)), must_rule_out(BOW, y, x, (arrow, bow)))
        self.assertIs(is_told(without_ties(BOW, (bow,)), x, y), True)

    def test_judge(self):
        x, y, doubtful = ("x",), ("y",), (("arrow", "x", "y"), ("bow", "x", "y"))
        good = ((doubtful[:1], doubtful[1:]), ((),))
        check_judge(self, lambda value: are_doubts(BOW, x, y, doubtful, value), [good], [
            good[::-1], list(good), (good[0], ()), ((), ((),)), (good[0][::-1], good[1]), (good[0][:1], good[1]), (good[0], [()]), good + good])
        self.assertIs(are_doubts(BOW, x, y, doubtful, good, by="lot"), False)
        self.assertIs(are_doubts(BOW, x, y, doubtful, ((doubtful[1:],), (doubtful[:1],)), by="lot"), True)

    def test_errors(self):
        arrow, bow = ("arrow", "x", "z"), ("bow", "x", "y")
        no_ties = ODDER[1:10] + (
            None, [arrow], (bow, arrow), (arrow, arrow), (list(arrow),), (("arrow", "z", "x"),), (("bow", "y", "x"),), (("arrow", "x", "y"),),
            (("Arrow", "x", "z"),), (("x", "z"),), (arrow[:2],), (arrow + ("y",),), ((None, "x", "z"),), (("arrow", "x", 1),), arrow, "arrow",
            {arrow: 1}, ((),), (("arrow",),), (("bow", "x", "z"),), (("arrow", ["x"], "z"),), FRONT, (FRONT,), (0,))
        check_errors(self, without_ties, (FRONT, (arrow, bow)), {0: (InvalidDiagram, NO_DIAGRAMS), 1: (InvalidOperation, no_ties)})
        whole = Diagram(tuple("abcde"), (), tuple(itertools.combinations("abcde", 2)))
        ties = ties_of(whole)
        self.assertEqual(len(without_ties(whole, ties[:7]).bows), 3)
        for call in (must_rule_out, still_doubtful, lambda *args, by="steps": are_doubts(*args, None, by=by)):
            wrong = {0: (InvalidDiagram, NO_DIAGRAMS), 1: (InvalidLot, NO_LOTS), 2: (InvalidLot, NO_LOTS + ((), ("x",))), 3: (InvalidOperation, no_ties),
                     "by": (InvalidOperation, ODDER + ("Steps",))}
            check_errors(self, call, (FRONT, ("x",), ("y",), (arrow, bow)), wrong, {"by": "lot"})
            call(whole, ("a",), ("b",), ties[:MAX_TIES])
            with self.assertRaises(InvalidOperation):
                call(whole, ("a",), ("b",), ties[:MAX_TIES + 1])


class MeetingTest(unittest.TestCase):
    def plain(self, lots):
        names = sorted({name for lot in lots for name in lot})
        return ends([part for part in parts_of(names) if all(set(part) & set(lot) for lot in lots)], True)

    def test_against_all_lots(self):
        draw = random.Random(1)
        for _ in range(300):
            names = "abcdefg"[:draw.randint(1, 7)]
            every = lots_within(names, 1)
            lots = tuple(sorted(draw.sample(every, min(len(every), draw.randint(0, 8)))))
            found = meeting_lots(lots)
            self.assertEqual(found, self.plain(lots))
            # Meeting the least lots of the meeting ones: the least of the first ones.
            self.assertEqual(meeting_lots(found), ends(lots, True))

    def test_edges(self):
        self.assertEqual(meeting_lots(()), ((),))
        self.assertEqual(meeting_lots(((),)), ())
        self.assertEqual(meeting_lots(((), ("a",))), ())
        self.assertEqual(meeting_lots((("a",),)), (("a",),))
        ten = tuple("abcdefghij")
        pairs = tuple(itertools.combinations(ten, 2))
        self.assertEqual(len(meeting_lots(pairs[:MAX_MET])), len(self.plain(pairs[:MAX_MET])))
        self.assertEqual(meeting_lots((ten,)), tuple((name,) for name in ten))

    def test_errors(self):
        ten = tuple("abcdefghij")
        pairs = tuple(itertools.combinations(ten, 2))
        no_lots = (None, True, 1, "ab", [("a",)], {}, (("b",), ("a",)), (("a",), ("a",)), ("a",), (("b", "a"),), (["a"],), (("A",),), ((1,),), (None,),
                   pairs[:MAX_MET + 1], (ten + ("k",),), (ten, ("k",)), {("a",): 1}, FRONT, (FRONT,))
        check_errors(self, meeting_lots, ((("a",),),), {0: (InvalidLot, no_lots)})


if __name__ == "__main__":
    unittest.main()
