"""Stage 18: deeds that part a picture."""
import itertools
import random
import unittest

from seenanddone.errors import InvalidDiagram, InvalidLot, InvalidWeb, Refused
from seenanddone.part.parting import (
    MAX_LOTS, colours, does_tell, fewest_lots, greatest_clique, is_colours, is_fewest_lots, is_greatest_clique,
    is_unparted, left_by, parted_arrows, unparted)
from seenanddone.same.pictures import Picture, picture_of
from seenanddone.web.diagrams import Diagram
from tests.helper import (
    BOW, FORK, FRONT, MEET, NO_DIAGRAMS, ODDER, bowless_diagrams, check_errors, check_judge, lots_within, some_diagrams)

ALL = picture_of(Diagram(("a", "b", "c"), (("a", "b"), ("a", "c"), ("b", "c"))))
SIX = ("a", "b", "c", "d", "e", "f")
PAIRS = tuple(itertools.combinations(SIX, 2))
WHOLE = Diagram(SIX, PAIRS)
NO_PICTURES = tuple(value for value in ODDER if not isinstance(value, Picture))
NO_TUPLES = (None, True, 0, "", "a", [], {}, [("a",)], ("a",), (("q",),), (("b", "a"),), (("a",), ["b"]), (("a", "a"),), (("a",),) * 9, ((),) * 9, (None,))


def cases():
    """Pictures of small diagrams, each once, and of some greater ones."""
    met = []
    for diagram in itertools.chain(*(bowless_diagrams(SIX[:size]) for size in (1, 2, 3, 4)), some_diagrams(25, 5, 181, 0.7, 0),
                                   [Diagram(SIX[:5], tuple(itertools.combinations(SIX[:5], 2)))]):
        picture = picture_of(diagram)
        if picture not in met:
            met.append(picture)
            yield picture


def some_lots(things, many, seed):
    draw = random.Random(seed)
    lots = lots_within(things)
    yield ()
    for size in range(many):
        yield tuple(draw.choice(lots) for _ in range(size % 4 + 1))


def plain_alike(one, other, lots):
    return all(one.cut(lot).ties == other.cut(lot).ties for lot in lots)


class AlikeTest(unittest.TestCase):
    def test_against_all_members(self):
        told = set()
        for seed, picture in enumerate(cases()):
            members = list(picture.members())
            for lots in some_lots(picture.things, 6, seed):
                keys = [tuple(member.cut(lot).ties for lot in lots) for member in members]
                pairs = itertools.permutations(range(len(members)), 2)
                alike = [(members[i], members[j]) for i, j in pairs if keys[i] == keys[j]]
                self.assertIs(does_tell(picture, lots), not alike)
                told.add(not alike)
                # [18.2]
                cut = [tie for tie in picture.open_ties if any(len(set(tie) & set(lot)) == 1 for lot in lots)]
                self.assertEqual(not alike, len(cut) == len(picture.open_ties))
                found = unparted(picture, lots)
                self.assertIs(found is None, not alike)
                if found is not None:
                    tie, one, other = found
                    self.assertIn((one, other), alike)
                    self.assertEqual([pair for pair in one.arrows if pair not in other.arrows], [tie])
                    self.assertEqual([pair for pair in other.arrows if pair not in one.arrows], [tie[::-1]])
                for tie in picture.open_ties:
                    for one, other in itertools.product(members[:6], repeat=2):
                        right = plain_alike(one, other, lots) and tie in one.arrows and tie[::-1] in other.arrows
                        self.assertIs(is_unparted(picture, lots, (tie, one, other)), right)
                self.check_left(members, lots)
        self.assertEqual(told, {True, False})

    def check_left(self, members, lots):
        for member in members[::max(1, len(members) // 3)]:
            left = tuple(other for other in members if plain_alike(member, other, lots))
            self.assertEqual(left_by(member, lots), left)
            self.assertIn(member, left)
            shared = sorted(set.intersection(*(set(other.arrows) for other in left)))
            self.assertEqual(parted_arrows(member, lots), tuple(shared))
            # [18.5]: what is not in a lot tells the same, and more lots tell no less.
            turned = tuple(tuple(t for t in member.things if t not in lot) for lot in lots)
            self.assertEqual(left_by(member, turned), left)
            if lots:
                self.assertTrue(all(other in left_by(member, lots[1:]) for other in left))

    def test_example(self):
        self.assertEqual([does_tell(picture_of(FORK), (("b",),)), does_tell(picture_of(FORK), (("a",),))], [True, False])
        self.assertEqual(unparted(picture_of(FORK), (("a",),))[0], ("b", "c"))
        self.assertEqual([len(left_by(FORK, (("a",),))), len(left_by(FORK, (("c",),)))], [2, 2])
        self.assertEqual([left_by(MEET, ()), parted_arrows(MEET, ())], [(MEET,), MEET.arrows])
        self.assertEqual(does_tell(picture_of(MEET), ()), True)
        # What two lots tell one lot with the things of both does not.
        self.assertEqual([does_tell(ALL, (("a",), ("b",))), does_tell(ALL, (("a", "b"),))], [True, False])

    def test_judge_of_unparted(self):
        one, other = Diagram(("a", "b", "c"), (("b", "a"), ("b", "c"))), Diagram(("a", "b", "c"), (("b", "a"), ("c", "b")))
        third = Diagram(("a", "b", "c"), (("a", "b"), ("b", "c")))
        tie = ("b", "c")
        check_judge(self, lambda value: is_unparted(picture_of(FORK), (("a",),), value), [(tie, one, other)], [
            (tie, other, one), (tie, one, one), (("a", "b"), one, other), (("a", "b"), third, one), (("c", "b"), one, other), (tie, one), [tie, one, other],
            (tie, one, MEET), (tie, MEET, other), (tie, third, other), (tie, one, other, other), (None, one, other), (tie, one, None), (tie, one.arrows, other.arrows),
            (["b", "c"], one, other), (tie, BOW, other), (("c", "b"), other, one), (tie, Diagram(("a", "b", "c"), (("b", "c"),)), other),
            (tie, one, Diagram(("a", "b", "c"), (("c", "b"),)))])
        # The members can differ at other ties, too.
        chain = [Diagram(SIX[:4], arrows) for arrows in ((("a", "b"), ("b", "c"), ("c", "d")), (("b", "a"), ("c", "b"), ("d", "c")))]
        picture = picture_of(chain[0])
        self.assertIs(is_unparted(picture, (), (("b", "c"), *chain)), True)
        self.assertIs(is_unparted(picture, (("a",),), (("b", "c"), *chain)), False)
        self.assertIs(is_unparted(picture, (("a",),), (("b", "c"), chain[0], chain[0])), False)

    def test_eight_lots_and_nine(self):
        self.assertEqual(MAX_LOTS, 8)
        lots = (("a",),) * 8
        self.assertIs(does_tell(picture_of(FORK), lots), False)
        self.assertEqual(len(left_by(FORK, lots)), 2)
        self.assertIs(is_unparted(picture_of(FORK), lots, unparted(picture_of(FORK), lots)), True)

    def test_errors(self):
        for call in (does_tell, unparted):
            check_errors(self, call, (picture_of(FORK), (("a",),)), {0: (InvalidWeb, NO_PICTURES), 1: (InvalidLot, NO_TUPLES)})
        check_errors(self, is_unparted, (picture_of(FORK), (("a",),), None), {0: (InvalidWeb, NO_PICTURES), 1: (InvalidLot, NO_TUPLES)})
        for call in (left_by, parted_arrows):
            check_errors(self, call, (FORK, (("a",),)), {0: (InvalidDiagram, NO_DIAGRAMS), 1: (InvalidLot, NO_TUPLES)})
            with self.assertRaises(Refused) as caught:
                call(FRONT, (("x",),))
            self.assertEqual(caught.exception.reason, ("bows",))
            with self.assertRaises(InvalidLot):
                call(FRONT, (("a",),))


class FewestTest(unittest.TestCase):
    def test_against_all_tries(self):
        numbers = set()
        for picture in cases():
            cliques = [lot for lot in lots_within(picture.things, 1)
                       if all(pair in picture.open_ties for pair in itertools.combinations(lot, 2))]
            most = max(map(len, cliques))
            self.assertIn(greatest_clique(picture), [lot for lot in cliques if len(lot) == most])
            for lot in lots_within(picture.things):
                self.assertIs(is_greatest_clique(picture, lot), lot in cliques and len(lot) == most)
            lots = lots_within(picture.things)
            fewest = next(n for n in itertools.count() if 2 ** n >= most)
            found = fewest_lots(picture)
            self.assertEqual((len(found), does_tell(picture, found)), (fewest, True))
            numbers.add(fewest)
            if len(picture) < 5:
                for size in range(fewest):
                    self.assertFalse(any(does_tell(picture, value) for value in itertools.product(lots, repeat=size)))
                for value in list(itertools.product(lots, repeat=fewest))[::3]:
                    self.assertIs(is_fewest_lots(picture, value), does_tell(picture, value))
                for value in itertools.product(lots[:5], repeat=fewest + 1):
                    self.assertIs(is_fewest_lots(picture, value), False)
            self.check_colours(picture, most, fewest)
        self.assertEqual(numbers, {0, 1, 2, 3})

    def check_colours(self, picture, most, fewest):
        found = colours(picture)
        self.assertEqual(list(found), list(picture.things))
        self.assertTrue(all(0 <= colour < most for colour in found.values()))
        for values in itertools.islice(itertools.product(range(most + 1), repeat=len(picture)), 300):
            value = dict(zip(picture.things, values))
            right = max(values) < most and all(value[a] != value[b] for a, b in picture.open_ties)
            self.assertIs(is_colours(picture, value), right)
        # [18.4]: the digits of the colours are lots that tell the picture.
        lots = tuple(tuple(t for t in picture.things if found[t] >> digit & 1) for digit in range(fewest))
        self.assertIs(does_tell(picture, lots), True)

    def test_six_things_all_tied(self):
        picture = picture_of(WHOLE)
        self.assertEqual((greatest_clique(picture), len(fewest_lots(picture))), (SIX, 3))
        self.assertEqual(sorted(colours(picture).values()), list(range(6)))
        self.assertIs(is_colours(picture, dict(zip(SIX, range(6)))), True)
        self.assertIs(does_tell(picture, fewest_lots(picture)), True)
        self.assertEqual(left_by(WHOLE, fewest_lots(picture)), (WHOLE,))
        self.assertEqual(len(left_by(WHOLE, (("a", "b", "c"),) * 8)), 36)
        self.assertEqual(parted_arrows(WHOLE, (("a",),)), tuple(("a", thing) for thing in SIX[1:]))
        tie, one, other = unparted(picture, (("a", "b", "c"), ("a", "d")))
        self.assertIs(is_unparted(picture, (("a", "b", "c"), ("a", "d")), (tie, one, other)), True)

    def test_judges(self):
        picture = picture_of(FORK)
        check_judge(self, lambda value: is_greatest_clique(picture, value), [("a", "b"), ("b", "c")], [("a", "c"), ("a",), ("a", "b", "c"), ("b", "a"), ["a", "b"], ()])
        alone = picture_of(Diagram(("q", "r")))
        self.assertEqual([is_greatest_clique(alone, value) for value in (("q",), ("r",), (), ("q", "r"))], [True, True, False, False])
        check_judge(self, lambda value: is_fewest_lots(picture, value), [(("b",),), (("a", "c"),)], [
            (("a",),), (), (("b",), ("b",)), [("b",)], ("b",), (["b"],), (("b", "b"),)])
        self.assertEqual([is_fewest_lots(alone, ()), is_fewest_lots(alone, ((),)), is_fewest_lots(alone, [])], [True, False, False])
        check_judge(self, lambda value: is_colours(picture, value), [{"a": 0, "b": 1, "c": 0}, {"c": 1, "b": 0, "a": 1}], [
            {"a": 0, "b": True, "c": 0}, {"a": False, "b": 1, "c": 0}, {"a": 0, "b": 1}, {"a": 0, "b": 1, "c": 2}, {"a": 0, "b": 0, "c": 1}, {"a": 0, "b": 1, "c": -1},
            {"a": 0, "b": 1, "c": 0, "d": 0}, {"a": 0, "b": 1, "d": 0}, (0, 1, 0), {"a": "0", "b": 1, "c": 0}])

    def test_errors(self):
        for call in (greatest_clique, fewest_lots, colours):
            check_errors(self, call, (ALL,), {0: (InvalidWeb, NO_PICTURES)})
        for call in (is_greatest_clique, is_fewest_lots, is_colours):
            check_errors(self, call, (ALL, None), {0: (InvalidWeb, NO_PICTURES)})


if __name__ == "__main__":
    unittest.main()
