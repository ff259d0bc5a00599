"""Stage 9: near things, what meets between two things, and diagrams with the same sayings."""
import itertools
import random
import unittest

from seenanddone.errors import InvalidDiagram, Refused, UnknownName
from seenanddone.same.sayings import (
    answers_of, are_near, binding_trail, does_meet, is_binding_trail, is_parting_saying, is_same, is_turnings,
    parting_saying, turnings)
from seenanddone.web.diagrams import Diagram
from tests.helper import (
    DIAMOND, FORK, FRONT, MEET, NO_DIAGRAMS, NO_THINGS, all_sayings, bowless_diagrams, check_errors, check_judge, lots_within,
    plain_ahead, plain_barred, plain_meets, plain_trails, small_diagrams, some_diagrams, some_sayings)

CHAIN = Diagram(("a", "b", "c"), (("a", "b"), ("b", "c")))
BIND = Diagram(("a", "b", "c"), (("b", "c"),), (("a", "b"), ("b", "c")))
BOWED = Diagram(("a", "b"), (), (("a", "b"),))


def cases():
    yield from small_diagrams()
    yield from some_diagrams(60, 4, 21)
    yield from some_diagrams(8, 5, 22)


def others_of(diagram, *names):
    return [thing for thing in diagram.things if thing not in names]


def plain_answers(diagram):
    return {
        (a, b, z): plain_barred(diagram, (a,), (b,), z)
        for a, b in itertools.combinations(diagram.things, 2) for z in lots_within(others_of(diagram, a, b))}


def plain_binds(diagram, trail):
    let = plain_ahead(diagram, trail[0]) | plain_ahead(diagram, trail[-1])
    return plain_meets(trail) == list(trail[2:-1:2]) and set(trail[2:-1:2]) <= let


class NearTest(unittest.TestCase):
    def test_examples(self):
        self.assertEqual(binding_trail(BIND, "a", "c"), ("a", "-", "b", "-", "c"))
        self.assertEqual([are_near(BIND, "a", "c"), are_near(CHAIN, "a", "c")], [True, False])
        self.assertIsNone(binding_trail(CHAIN, "a", "c"))
        self.assertEqual(binding_trail(BIND, "c", "b")[::2], ("c", "b"))

    def test_against_all_lots_and_trails(self):
        told = set()
        for diagram in cases():
            answers = plain_answers(diagram)
            for a, b in itertools.permutations(diagram.things, 2):
                low, high = min(a, b), max(a, b)
                lots = [z for x, y, z in answers if (x, y) == (low, high) and answers[(x, y, z)]]
                near = not lots
                trails = list(plain_trails(diagram, a, b))
                self.assertIs(are_near(diagram, a, b), near)
                found = binding_trail(diagram, a, b)
                self.assertIs(found is not None, near)
                self.assertIs(is_binding_trail(diagram, a, b, found), near)
                for trail in trails:
                    self.assertIs(is_binding_trail(diagram, a, b, trail), plain_binds(diagram, trail))
                if found is not None:
                    self.assertTrue(plain_binds(diagram, found))
                    told.add(len(found))
                else:
                    ahead = (plain_ahead(diagram, a) | plain_ahead(diagram, b)) - {a, b}
                    self.assertIn(tuple(sorted(ahead)), lots)
        self.assertLessEqual({3, 5, 7}, told)

    def test_what_meets(self):
        told = set()
        for diagram in cases():
            answers = plain_answers(diagram)
            for a, b, c in itertools.permutations(diagram.things, 3):
                lots = [z for x, y, z in answers if (x, y) == (min(a, b), max(a, b)) and answers[(x, y, z)]]
                if not lots or not are_near(diagram, a, c) or not are_near(diagram, b, c):
                    with self.assertRaises(Refused) as caught:
                        does_meet(diagram, a, b, c)
                    self.assertEqual(caught.exception.reason, ("near",))
                    continue
                meets = does_meet(diagram, a, b, c)
                told.add(meets)
                self.assertIn(len([z for z in lots if c in z]), (0,) if meets else (len(lots),))
                self.assertIs(meets, not any(c in z for z in lots))
        self.assertEqual(told, {True, False})

    def test_judge(self):
        check_judge(self, lambda value: is_binding_trail(BIND, "a", "c", value), [("a", "-", "b", "-", "c")], [
            ("c", "-", "b", "-", "a"), ("a", "-", "b"), ("a", "-", "b", ">", "c"), ["a", "-", "b", "-", "c"], ("a", "b", "c"),
            ("a", "-", "b", "-", "c", "-", "a"), ("a",), ("a", 0, "b", "-", "c"), ("b", "-", "c"), ("b", ">", "c")])

    def test_errors(self):
        for call in (are_near, binding_trail):
            check_errors(self, call, (FORK, "a", "c"), {
                0: (InvalidDiagram, NO_DIAGRAMS), 1: (UnknownName, NO_THINGS), 2: (UnknownName, NO_THINGS + ("a",))})
        check_errors(self, is_binding_trail, (FORK, "a", "c", None), {
            0: (InvalidDiagram, NO_DIAGRAMS), 1: (UnknownName, NO_THINGS), 2: (UnknownName, NO_THINGS + ("a",))})
        check_errors(self, does_meet, (FORK, "a", "c", "b"), {
            0: (InvalidDiagram, NO_DIAGRAMS), 1: (UnknownName, NO_THINGS), 2: (UnknownName, NO_THINGS + ("a",)),
            3: (UnknownName, NO_THINGS + ("a", "c"))})
        for args, asked in ((("a", "b", "q"), "q"), (("q", "b", "c"), "q"), (("a", "a", "q"), "a"), (("a", "b", "b"), "b")):
            with self.assertRaises(UnknownName) as caught:
                does_meet(FORK, *args)
            self.assertEqual(caught.exception.asked, asked)


class SameTest(unittest.TestCase):
    def test_answers(self):
        for diagram in cases():
            answers = answers_of(diagram)
            self.assertEqual(answers, plain_answers(diagram))
            self.assertEqual(list(answers), sorted(answers))
            for value in answers.values():
                self.assertIsInstance(value, bool)
            for x, y, z in some_sayings(diagram.things, 10, len(answers)):
                every = all(answers[(min(a, b), max(a, b), z)] for a in x for b in y)
                self.assertIs(plain_barred(diagram, x, y, z), every)
        self.assertEqual(len(answers_of(next(some_diagrams(1, 6, 1)))), 240)
        self.assertEqual(answers_of(Diagram(("a",))), {})

    def check_pair(self, one, other):
        same = plain_answers(one) == plain_answers(other)
        self.assertIs(is_same(one, other), same)
        saying = parting_saying(one, other)
        self.assertIs(saying is None, same)
        self.assertIs(is_parting_saying(one, other, saying), not same)
        if saying is not None:
            self.assertNotEqual(plain_barred(one, *saying), plain_barred(other, *saying))
        return same

    def test_pairs(self):
        draw = random.Random(3)
        small = [diagram for diagram in small_diagrams() if len(diagram) == 3]
        told = [self.check_pair(*draw.sample(small, 2)) for _ in range(600)]
        four = list(some_diagrams(40, 4, 23, 0.5, 0.4))
        told += [self.check_pair(*draw.sample(four, 2)) for _ in range(120)]
        self.assertEqual(set(told), {True, False})
        # Same near pairs and the same meetings, without bows: the same sayings.
        for one, other in itertools.product(bowless_diagrams(("a", "b", "c")), repeat=2):
            self.check_pair(one, other)

    def near_and_meeting(self, diagram):
        """All near pairs, and for what is near two things that are not near each other whether it meets."""
        near = [pair for pair in itertools.combinations(diagram.things, 2) if are_near(diagram, *pair)]
        meets = {}
        for a, b in itertools.combinations(diagram.things, 2):
            for c in others_of(diagram, a, b):
                if (a, b) not in near and (min(a, c), max(a, c)) in near and (min(b, c), max(b, c)) in near:
                    meets[(a, b, c)] = does_meet(diagram, a, b, c)
        return near, meets

    def test_near_pairs_and_meetings(self):
        by_shape = {}
        for diagram in bowless_diagrams(("a", "b", "c")):
            by_shape.setdefault(str(self.near_and_meeting(diagram)), []).append(diagram)
        for group in by_shape.values():
            for diagram in group:
                self.assertIs(is_same(group[0], diagram), True)
        # With bows they do not tell the sayings.
        one = Diagram(("a", "b", "c", "d"), (("a", "b"), ("c", "a"), ("d", "a")), (("b", "c"),))
        other = Diagram(("a", "b", "c", "d"), (("a", "b"),), (("a", "c"), ("a", "d"), ("b", "c")))
        self.assertEqual(self.near_and_meeting(one), self.near_and_meeting(other))
        self.assertIs(self.check_pair(one, other), False)
        self.assertIs(is_same(Diagram(("a", "b"), (("a", "b"),)), BOWED), True)
        # The same ties, and not the same sayings.
        self.assertEqual(FORK.ties, MEET.ties)
        self.assertIs(is_same(FORK, MEET), False)

    def test_judge_of_sayings(self):
        wrong = []
        for one, other in ((FORK, MEET), (CHAIN, MEET), (FORK, CHAIN), (BIND, FORK)):
            for x, y, z in all_sayings(one.things):
                parting = plain_barred(one, x, y, z) != plain_barred(other, x, y, z)
                self.assertIs(is_parting_saying(one, other, (x, y, z)), parting)
        good = (("a",), ("c",), ("b",))
        wrong = [("a", "c", ("b",)), (("a",), ("c",)), [("a",), ("c",), ("b",)], (("a",), ("c",), ["b"]), (("a",), ("c",), ("b", "q")),
                 ((), ("c",), ("b",)), (("a",), (), ("b",)), (("a",), ("a",), ("b",)), (("a",), ("c",), ("a", "b")), (("a",), ("c",), "b"),
                 good + ((),), (("a",), ("c",), ("b", "b"))]
        check_judge(self, lambda value: is_parting_saying(FORK, MEET, value), [good, (("c",), ("a",), ()), (("c",), ("a",), ("b",))], wrong)
        four = Diagram(("a", "b", "c", "d"))
        self.assertIs(is_parting_saying(four, Diagram(four.things, (("a", "d"),)), (("a", "b"), ("c", "d"), ())), True)
        self.assertIs(is_parting_saying(four, Diagram(four.things, (("a", "b"),)), (("a", "b"), ("c", "d"), ())), False)

    def test_errors(self):
        for call in (is_same, parting_saying, lambda one, other: is_parting_saying(one, other, None)):
            check_errors(self, call, (FORK, MEET), {0: (InvalidDiagram, NO_DIAGRAMS), 1: (InvalidDiagram, NO_DIAGRAMS)})
            with self.assertRaises(Refused) as caught:
                call(FORK, FRONT)
            self.assertEqual(caught.exception.reason, ("things",))
        check_errors(self, answers_of, (FORK,), {0: (InvalidDiagram, NO_DIAGRAMS)})


class TurningTest(unittest.TestCase):
    def check_row(self, one, other, row):
        """Each turning by itself: the parents, no ring, the same sayings."""
        made = one
        for cause, effect in row:
            self.assertIn((cause, effect), made.arrows)
            self.assertEqual(set(made.parents(effect)), set(made.parents(cause)) | {cause})
            turned = tuple(sorted((set(made.arrows) - {(cause, effect)}) | {(effect, cause)}))
            following = Diagram(one.things, turned)
            self.assertEqual(plain_answers(following), plain_answers(made))
            made = following
        self.assertEqual(made, other)

    def check_pair(self, one, other):
        same = plain_answers(one) == plain_answers(other)
        row = turnings(one, other)
        self.assertIs(row is not None, same)
        self.assertIs(is_turnings(one, other, row), same)
        if same:
            self.check_row(one, other, row)
            self.assertEqual(len(row), len(set(one.arrows) - set(other.arrows)))
        return same

    def test_pairs(self):
        for one, other in itertools.product(bowless_diagrams(("a", "b", "c")), repeat=2):
            self.check_pair(one, other)
        by_answers = {}
        for diagram in bowless_diagrams(("a", "b", "c", "d")):
            by_answers.setdefault(str(answers_of(diagram)), []).append(diagram)
        draw = random.Random(5)
        groups = [group for group in by_answers.values() if len(group) > 2]
        for group in groups[::3]:
            self.assertTrue(self.check_pair(*draw.sample(group, 2)))
        for one, other in zip(some_diagrams(40, 5, 24, 0.5, 0), some_diagrams(40, 5, 25, 0.5, 0)):
            self.check_pair(one, other)
            self.check_pair(one, one)

    def test_all_ties_of_six(self):
        things = ("a", "b", "c", "d", "e", "f")
        one = Diagram(things, tuple(itertools.combinations(things, 2)))
        other = Diagram(things, tuple(sorted((b, a) for a, b in itertools.combinations(things, 2))))
        row = turnings(one, other)
        self.assertEqual(len(row), 15)
        self.assertIs(is_turnings(one, other, row), True)
        self.assertIs(is_turnings(one, other, row + (row[0], row[0])), False)
        self.assertEqual(turnings(one, one), ())

    def test_judge(self):
        turned = Diagram(CHAIN.things, (("b", "a"), ("c", "b")))
        row = (("a", "b"), ("b", "c"))
        long_way = (("a", "b"), ("b", "c"), ("c", "b"), ("b", "c"))
        check_judge(self, lambda value: is_turnings(CHAIN, turned, value), [row, long_way, row + (("c", "b"), ("b", "c")) * 6], [
            (("b", "c"), ("a", "b")), (), row[:1], row + row, list(row), (["a", "b"], ("b", "c")), (("b", "a"), ("b", "c")),
            row + (("c", "b"), ("b", "c")) * 7, (("a", "b", "c"),), ("ab", "bc"), (("a", "b"), ("b", 1))])
        self.assertIs(is_turnings(CHAIN, CHAIN, ()), True)
        self.assertIs(is_turnings(CHAIN, MEET, ()), False)
        # An arrow that makes something meet cannot be turned, nor one that would make a ring.
        self.assertIs(is_turnings(CHAIN, MEET, (("b", "c"),)), False)
        whole = Diagram(("a", "b", "c"), (("a", "b"), ("a", "c"), ("b", "c")))
        self.assertIs(is_turnings(whole, whole, (("a", "c"), ("c", "a"))), False)

    def test_errors(self):
        for call in (turnings, lambda one, other: is_turnings(one, other, ())):
            check_errors(self, call, (FORK, MEET), {0: (InvalidDiagram, NO_DIAGRAMS), 1: (InvalidDiagram, NO_DIAGRAMS)})
            for one, other, reason in ((BIND, FORK, "bows"), (FORK, BIND, "bows"), (FRONT, FORK, "bows"), (FORK, DIAMOND, "things")):
                with self.assertRaises(Refused) as caught:
                    call(one, other)
                self.assertEqual(caught.exception.reason, (reason,))


if __name__ == "__main__":
    unittest.main()
