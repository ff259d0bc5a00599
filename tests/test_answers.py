"""Stage 11: from answers to pictures, or to bars."""
import itertools
import random
import unittest

from seenanddone.errors import InvalidLot, InvalidOperation, UnknownName
from seenanddone.same.answers import (
    are_tied, arrows_told, bar_of_answers, is_answers, is_bar_of_answers, picture_of_answers)
from seenanddone.same.pictures import picture_of
from seenanddone.same.rules import way_between
from seenanddone.same.sayings import answers_of
from seenanddone.web.diagrams import Diagram
from tests.helper import (
    DIAMOND, FORK, MEET, NO_THINGS, ODDER, bowless_diagrams, check_errors, check_judge, has_ring, lots_within, some_diagrams)

THREE = ("a", "b", "c")
FOUR = ("a", "b", "c", "d")


def sayings_of(things):
    return [(a, b, z) for a, b in itertools.combinations(things, 2)
            for z in lots_within([t for t in things if t not in (a, b)])]


def answers_with(things, **parted):
    """Answers in which just some pairs are parted, by lots that tuples of words tell: ab=("", "cd")."""
    return {(a, b, z): "".join(z) in parted.get(a + b, ()) for a, b, z in sayings_of(things)}


RING = answers_with(FOUR, ac=("bd",), bd=("ac",))


class Plain:
    """What answers tell of ties, and of what meets and passes."""

    def __init__(self, things, answers):
        self.things, self.answers = things, answers

    def lots(self, a, b):
        a, b = min(a, b), max(a, b)
        return [z for x, y, z in self.answers if (x, y) == (a, b) and self.answers[(x, y, z)]]

    def tied(self, a, b):
        return a != b and not self.lots(a, b)

    def corner(self, a, b, c):
        return len({a, b, c}) == 3 and self.tied(a, b) and self.tied(b, c) and not self.tied(a, c)

    def meets(self, a, b, c):
        return self.corner(a, b, c) and any(b not in z for z in self.lots(a, c))

    def passes(self, a, b, c):
        return self.corner(a, b, c) and any(b in z for z in self.lots(a, c))

    def told(self, rows):
        """The arrows that rows tell, or None."""
        told = set()
        for word, *row in rows:
            a, b, c = row[:3]
            if word == "meet" and len(row) == 3 and a < c and self.meets(a, b, c):
                told |= {(a, b), (c, b)}
            elif word == "one" and len(row) == 3 and (a, b) in told and self.passes(a, b, c):
                told.add((b, c))
            elif word == "two" and len(row) == 3 and {(a, b), (b, c)} <= told and self.tied(a, c):
                told.add((a, c))
            elif (word == "three" and len(row) == 4 and c < row[3] and {(c, b), (row[3], b)} <= told and self.tied(a, b)
                  and self.passes(c, a, row[3])):
                told.add((a, b))
            else:
                return None
        return told

    def is_bar(self, bar):
        word, end = bar[0], bar[-1]
        if word in ("split", "new") and len(end) != 3 or word == "both" and len(end) != 2:
            return False
        if word == "split":
            return self.meets(*end) and self.passes(*end)
        if word == "chord":
            many = len(end)
            sides = {frozenset((end[at - 1], end[at])) for at in range(many)}
            return many > 3 and all(
                (frozenset(pair) in sides) == self.tied(*pair) for pair in itertools.combinations(end, 2)) and all(
                self.passes(end[at - 2], end[at - 1], end[at]) for at in range(many))
        if word == "answer":
            return self.is_answer_bar(bar[1], end)
        told = self.told(bar[1])
        if told is None:
            return False
        if word == "both":
            return {end, end[::-1]} <= told
        if word == "ring":
            return len(set(end)) == len(end) > 2 and all((end[at - 1], end[at]) in told for at in range(len(end)))
        return word == "new" and self.passes(*end) and {end[:2], end[:0:-1]} <= told

    def is_answer_bar(self, arrows, saying):
        pairs = {frozenset(arrow) for arrow in arrows}
        if has_ring(self.things, arrows) or tuple(sorted(set(arrows))) != arrows:
            return False
        if any((frozenset(pair) in pairs) != self.tied(*pair) for pair in itertools.combinations(self.things, 2)):
            return False
        for a, b, c in itertools.permutations(self.things, 3):
            if self.corner(a, b, c) and ({(a, b), (c, b)} <= set(arrows)) != self.meets(a, b, c):
                return False
        return answers_of(Diagram(self.things, arrows))[saying] != self.answers[saying]


class PictureOrBarTest(unittest.TestCase):
    def check(self, things, answers, diagrams=None):
        """A picture or a bar, never both; the word of the bar."""
        picture, bar = picture_of_answers(things, answers), bar_of_answers(things, answers)
        self.assertIs(picture is None, bar is not None)
        self.assertIs(is_bar_of_answers(things, answers, bar), bar is not None)
        if diagrams is not None:
            self.assertEqual(picture, diagrams.get(str(sorted(answers.items()))))
        if picture is not None:
            self.assertEqual(answers_of(picture.member(0)), answers)
            return None
        self.assertTrue(Plain(things, answers).is_bar(bar))
        return bar[0]

    def test_all_answers_about_three_things(self):
        for size in (1, 2, 3):
            things = THREE[:size]
            diagrams = {str(sorted(answers_of(d).items())): picture_of(d) for d in bowless_diagrams(things)}
            keys = sayings_of(things)
            for values in itertools.product((False, True), repeat=len(keys)):
                self.check(things, dict(zip(keys, values)), diagrams)

    def test_answers_of_diagrams(self):
        cases = list(bowless_diagrams(FOUR))[::7] + list(some_diagrams(25, 5, 3, 0.5, 0)) + list(some_diagrams(12, 6, 4, 0.4, 0))
        for diagram in cases:
            answers = answers_of(diagram)
            self.assertIs(is_answers(diagram.things, answers), True)
            self.assertEqual(picture_of_answers(diagram.things, answers), picture_of(diagram))
            self.assertIsNone(bar_of_answers(diagram.things, answers))
            turned = dict(reversed(list(answers.items())))
            self.assertEqual(picture_of_answers(diagram.things, turned), picture_of(diagram))

    def test_answers_turned_about(self):
        diagrams = {str(sorted(answers_of(d).items())): picture_of(d) for d in bowless_diagrams(FOUR)}
        draw = random.Random(1)
        words = set()
        for many, size, seed in ((150, 4, 1), (80, 5, 2), (25, 6, 3)):
            for diagram in some_diagrams(many, size, seed, 0.5, 0):
                answers = answers_of(diagram)
                for key in draw.sample(sorted(answers), draw.choice((1, 1, 2, 4))):
                    answers[key] = not answers[key]
                words.add(self.check(diagram.things, answers, diagrams if size == 4 else None))
        for many in range(300):
            keys = sayings_of(FOUR)
            parted = {pair: draw.random() < 0.5 for pair in itertools.combinations(FOUR, 2)}
            answers = {(a, b, z): parted[(a, b)] and draw.random() < 0.6 for a, b, z in keys}
            words.add(self.check(FOUR, answers, diagrams))
        self.assertLessEqual({"split", "both", "answer", None}, words)

    def test_shapes_without_split(self):
        """Each pair of four things is tied, or parted by one lot: a picture, or a bar."""
        draw = random.Random(6)
        words = set()
        for ties in itertools.product((False, True), repeat=6):
            pairs = dict(zip(itertools.combinations(FOUR, 2), ties))
            open_pairs = [pair for pair in pairs if not pairs[pair]]
            choices = [lots_within([t for t in FOUR if t not in pair]) for pair in open_pairs]
            every = list(itertools.product(*choices))
            for chosen in draw.sample(every, min(16, len(every))):
                parting = dict(zip(open_pairs, chosen))
                answers = {(a, b, z): parting.get((a, b)) == z for a, b, z in sayings_of(FOUR)}
                words.add(self.check(FOUR, answers))
        self.assertLessEqual({"both", "chord", "answer"}, words)

    def test_a_ring_of_four_ties(self):
        bar = bar_of_answers(FOUR, RING)
        self.assertEqual((bar[0], sorted(bar[1])), ("chord", list(FOUR)))
        for ring in itertools.permutations(FOUR):
            opposite = {frozenset((ring[0], ring[2])), frozenset((ring[1], ring[3]))}
            is_ring = opposite == {frozenset("ac"), frozenset("bd")}
            self.assertIs(is_bar_of_answers(FOUR, RING, ("chord", ring)), is_ring)
        check_judge(self, lambda value: is_bar_of_answers(FOUR, RING, value), [("chord", FOUR)], [
            ("chord", list(FOUR)), ["chord", FOUR], ("chord", FOUR[:3]), ("chord", FOUR + ("a",)), ("chord",), ("Chord", FOUR), ("chord", FOUR, ()),
            ("ring", (), FOUR), ("chord", ("a", "b", "c", "q")), ("split", FOUR), ("split", FOUR[:3]), ("chord", "abcd"),
            ("chord", (["a"], "b", "c", "d")), (None, FOUR), ("chord", None)])
        # One thing meets in the diamond, so that its ring is no bar.
        self.assertIs(is_bar_of_answers(FOUR, answers_of(DIAMOND), ("chord", ("a", "b", "d", "c"))), False)
        self.assertIsNone(bar_of_answers(FOUR, answers_of(DIAMOND)))


class BarTest(unittest.TestCase):
    def check_bars(self, things, answers, right, wrong):
        plain = Plain(things, answers)
        for bar in right:
            self.assertTrue(plain.is_bar(bar), bar)
        check_judge(self, lambda value: is_bar_of_answers(things, answers, value), right, wrong)
        self.assertIsNone(picture_of_answers(things, answers))

    def test_split(self):
        answers = answers_with(THREE, ac=("", "b"))
        self.check_bars(THREE, answers, [("split", ("a", "b", "c")), ("split", ("c", "b", "a"))], [
            ("split", ("b", "a", "c")), ("split", ("a", "c", "b")), ("split", ["a", "b", "c"]), ("split", ("a", "b")), ("split",),
            ("split", ("a", "b", "c"), ()), ("split", ("a", "b", "q")), ("split", "abc"), ("split", None), ("split", {})])
        self.assertEqual(bar_of_answers(THREE, answers)[0], "split")

    def test_both_and_new(self):
        # b meets between a and c; and c passes on from b to d, while b meets between c and d as well.
        answers = answers_with(FOUR, ac=("",), cd=("",), ad=("b",))
        meets = (("meet", "a", "b", "c"), ("meet", "c", "b", "d"))
        both = meets[:1] + (("one", "a", "b", "d"),)
        self.check_bars(FOUR, answers, [
            ("new", meets, ("a", "b", "d")), ("new", meets, ("d", "b", "a")), ("new", meets[::-1], ("a", "b", "d")),
            ("both", meets + both[1:], ("b", "d")), ("both", meets + both[1:], ("d", "b"))], [
            ("new", meets, ("a", "b", "c")), ("new", meets, ("a", "d", "b")), ("new", meets[:1], ("a", "b", "d")), ("new", meets, ["a", "b", "d"]),
            ("new", list(meets), ("a", "b", "d")), ("new", (), ("a", "b", "d")), ("both", both, ("b", "d")), ("both", meets, ("b", "d")),
            ("both", meets + both[1:], ("a", "b")), ("both", meets + both[1:], ("b", "d", "b")), ("both", meets + both[1:], ["b", "d"]),
            ("both", both[::-1] + meets, ("b", "d")), ("ring", meets + both[1:], ("b", "d")), ("both", meets + both[1:]),
            ("new", meets, ("a", "b")), ("New", meets, ("a", "b", "d")), ("new", meets, ("a", "b", "d"), ()), ("new", None, ("a", "b", "d")), ("new", meets, None), ("both", meets + both[1:], None),
            ("both", meets + (("one", "a", "b", "q"),), ("b", "d")), ("both", meets + (("meet", "c", "b", "a"),) + both[1:], ("b", "d"))])

    def test_ways_between(self):
        """The shortest ways, and of these the one whose arrows stand first, step by step from the start."""
        draw = random.Random(111)
        pairs = list(itertools.permutations(FOUR, 2))
        for _ in range(300):
            arrows = tuple(draw.sample(pairs, draw.randint(0, 9)))
            kept = list(arrows)
            for start, end in itertools.product(FOUR, repeat=2):
                ways = [(start,)]
                while ways and not any(way[-1] == end for way in ways):
                    met = {way[-1] for way in ways} | {thing for way in ways for thing in way}
                    ways = [way + (b,) for way in ways for a, b in kept if a == way[-1] and b not in met]
                found = way_between(arrows, start, end)
                self.assertIs(found is None, not ways)
                if ways:
                    self.assertEqual(len(found), len(ways[0]))
                    self.assertTrue(found[0] == start and found[-1] == end and set(zip(found, found[1:])) <= set(arrows))
                self.assertEqual(way_between(list(arrows), start, end), found)
        self.assertEqual(way_between((("a", "c"), ("a", "b"), ("b", "d"), ("c", "d")), "a", "d"), ("a", "c", "d"))
        self.assertEqual(way_between((), "a", "a"), ("a",))

    def test_ring(self):
        # From what meets at b the rules go on around a ring of four things.
        things = ("a", "b", "c", "d", "e")
        answers = answers_with(things, ac=("bd",), ae=("",), bd=("ac",), ce=("b",), de=("",))
        word, rows, ring = bar_of_answers(things, answers)
        self.assertEqual((word, sorted(ring)), ("ring", list(FOUR)))
        turned = ring[1:] + ring[:1]
        self.check_bars(things, answers, [("ring", rows, ring), ("ring", rows, turned), ("ring", rows + rows, turned)], [
            ("ring", rows, ring[::-1]), ("ring", rows, ring[:2]), ("ring", rows[:1], ring), ("ring", rows, ring + ring),
            ("ring", rows, list(ring)), ("ring", list(rows), ring), ("ring", rows), ("ring", rows, None), ("ring", rows, ()),
            ("ring", rows, ("a", "b", "c", "q")), ("ring", rows, (["a"], "b", "c", "d")), ("new", rows, ring)])
        # A ring of three things, of which each one is told by what meets.
        things = ("a", "b", "c", "d", "e", "f")
        answers = answers_with(
            things, ad=("",), be=("",), cf=("",), cd=("b",), ae=("c",), bf=("a",), de=("",), df=("",), ef=("",))
        rows = (("meet", "a", "b", "d"), ("meet", "b", "c", "e"), ("meet", "c", "a", "f"))
        self.check_bars(things, answers, [("ring", rows, ("a", "b", "c")), ("ring", rows, ("c", "a", "b"))], [
            ("ring", rows, ("c", "b", "a")), ("ring", rows[:2], ("a", "b", "c")), ("ring", rows, ("a", "b")), ("ring", rows, ())])

    def test_answer(self):
        # The ties and what meets are those of a chain of four things; one more answer is turned about.
        chain = Diagram(FOUR, (("a", "b"), ("b", "c"), ("c", "d")))
        answers = answers_of(chain)
        answers[("a", "d", ())] = True
        bar = bar_of_answers(FOUR, answers)
        self.assertEqual((bar[0], bar[2]), ("answer", ("a", "d", ())))
        turned = (("b", "a"), ("c", "b"), ("d", "c"))
        key = ("a", "d", ())
        self.check_bars(FOUR, answers, [("answer", chain.arrows, key), ("answer", turned, key)], [
            ("answer", chain.arrows, ("a", "d", ("b",))), ("answer", (("a", "b"), ("c", "b"), ("c", "d")), key),
            ("answer", chain.arrows[:2], key), ("answer", chain.arrows + (("d", "a"),), key), ("answer", chain.arrows[::-1], key),
            ("answer", list(chain.arrows), key), ("answer", chain.arrows, ("d", "a", ())), ("answer", chain.arrows, ["a", "d", ()]),
            ("answer", chain.arrows, (["a"], "d", ())), ("answer", chain.arrows, ("a", "d", [])), ("answer", chain.arrows), ("answer", chain, key),
            ("answer", (), key), ("answer", None, key), ("answer", chain.arrows, None), ("answer", chain.arrows, {}),
            ("answer", (("a", "b"), ("b", "a")), key), ("both", chain.arrows, key)])
        for key in answers:
            self.assertIs(is_bar_of_answers(FOUR, answers, ("answer", turned, key)), key == ("a", "d", ()))


    def test_bars_by_chance(self):
        draw = random.Random(4)
        kinds = set()
        for _ in range(150):
            parted = {pair: draw.random() < 0.5 for pair in itertools.combinations(FOUR, 2)}
            answers = {key: parted[key[:2]] and draw.random() < 0.5 for key in sayings_of(FOUR)}
            if draw.random() < 0.5:
                answers = answers_of(next(some_diagrams(1, 4, draw.random(), 0.5, 0)))
                key = draw.choice(list(answers))
                answers[key] = not answers[key]
            plain = Plain(FOUR, answers)
            rows = ()
            for _ in range(40):
                row = (draw.choice(("meet", "one", "two")),) + tuple(draw.sample(FOUR, 3))
                rows = rows + (row,) if plain.told(rows + (row,)) is not None else rows
            told = sorted(plain.told(rows))
            for _ in range(12):
                end = tuple(draw.choice(FOUR) for _ in range(draw.choice((2, 3, 3, 4))))
                ties = [pair for pair in itertools.combinations(FOUR, 2) if plain.tied(*pair)]
                arrows = tuple(sorted(draw.choice((pair, pair[::-1])) for pair in ties if draw.random() < 0.95))
                for value in (("split", end), ("both", rows, draw.choice(told + [end])), ("new", rows, end), ("ring", rows, end), ("chord", end),
                              ("answer", arrows, draw.choice(list(answers))), ("both", rows, (draw.choice(told or [end]))[::-1])):
                    is_bar = plain.is_bar(value)
                    kinds.add((value[0], is_bar))
                    self.assertIs(is_bar_of_answers(FOUR, answers, value), is_bar, value)
        self.assertLessEqual({(word, True) for word in ("split", "both", "new", "answer")}, kinds)

    def test_arrows_of_the_last_kind(self):
        """All arrows, with a ring or without, with the ties or others, for one answer turned about."""
        answers = answers_with(THREE, ac=("b",))
        answers[("b", "c", ("a",))] = False
        pairs = list(itertools.permutations(THREE, 2))
        for size in range(4):
            for arrows in itertools.permutations(pairs, size):
                for key in answers:
                    value = ("answer", arrows, key)
                    self.assertIs(is_bar_of_answers(THREE, answers, value), Plain(THREE, answers).is_bar(value), value)


class RowTest(unittest.TestCase):
    def all_rows(self, things):
        for word in ("meet", "one", "two"):
            for row in itertools.permutations(things, 3):
                yield (word,) + row
        for row in itertools.permutations(things, 4):
            yield ("three",) + row

    def test_against_the_rules(self):
        draw = random.Random(2)
        rows = list(self.all_rows(FOUR))
        told_words = set()
        for seed, diagram in enumerate(bowless_diagrams(FOUR)):
            if seed % 9:
                continue
            answers = answers_of(diagram)
            plain = Plain(FOUR, answers)
            told = ()
            for _ in range(3):
                for row in draw.sample(rows, len(rows)):
                    value = told + (row,)
                    arrows = plain.told(value)
                    if arrows is None:
                        with self.assertRaises(InvalidOperation):
                            arrows_told(FOUR, answers, value)
                    else:
                        self.assertEqual(arrows_told(FOUR, answers, value), tuple(sorted(arrows)))
                        self.assertLessEqual(arrows, set(picture_of(diagram).arrows))
                        told_words.add(row[0])
                        if row not in told:
                            told = value
            self.assertEqual(set(arrows_told(FOUR, answers, told)), set(picture_of(diagram).arrows))
        self.assertEqual(told_words, {"meet", "one", "two", "three"})

    def test_each_row_behind_all_others(self):
        """Behind rows that tell all that any rows tell, each row of four things, right or not."""
        answers = [answers_of(d) for d in list(bowless_diagrams(FOUR))[4::40]]
        answers += [answers_with(FOUR, ac=("b",), cd=("", "a"), ad=("b", "")), answers_with(FOUR, bc=("a",), ad=("",), ac=("d",))]
        every = [(word,) + row for word in ("meet", "one", "two", "four") for row in itertools.product(FOUR, repeat=3)]
        every += [(word,) + row for word in ("three", "one") for row in itertools.product(FOUR, repeat=4)]
        for one in answers:
            plain, rows = Plain(FOUR, one), ()
            for _ in range(4):
                for row in self.all_rows(FOUR):
                    if row not in rows and plain.told(rows + (row,)) is not None:
                        rows = rows + (row,)
            for row in every:
                arrows = plain.told(rows + (row,))
                is_bar = is_bar_of_answers(FOUR, one, ("both", rows + (row,), ("a", "b")))
                self.assertIs(is_bar, arrows is not None and {("a", "b"), ("b", "a")} <= arrows)
                if arrows is None:
                    with self.assertRaises(InvalidOperation):
                        arrows_told(FOUR, one, rows + (row,))
                else:
                    self.assertEqual(arrows_told(FOUR, one, rows + (row,)), tuple(sorted(arrows)))

    def test_rule_three_with_one_arrow_told(self):
        things = ("a", "b", "c", "d", "e")
        for far, near in (("c", "d"), ("d", "c")):
            arrows = ((far, "a"), ("a", near), ("a", "b"), (near, "b"), ("e", "b"))
            answers = answers_of(Diagram(things, tuple(sorted(arrows))))
            rows = (("meet", "a", "b", "e"), ("meet", near, "b", "e"))
            self.assertEqual(arrows_told(things, answers, rows), (("a", "b"), tuple((near, "b")), ("e", "b")))
            with self.assertRaises(InvalidOperation):
                arrows_told(things, answers, rows + (("three", "a", "b", "c", "d"),))

    def test_rows_by_chance(self):
        draw = random.Random(5)
        every = list(self.all_rows(FOUR))
        words = set()
        for diagram in list(bowless_diagrams(FOUR))[::6]:
            answers = answers_of(diagram)
            plain, rows = Plain(FOUR, answers), ()
            for step in range(40):
                good = [row for row in every if plain.told(rows + (row,)) is not None] if step % 8 == 0 else good
                row = draw.choice(good or every)
                for _ in range(draw.choice((0, 0, 1, 2))):
                    at = draw.randrange(1, len(row) + 1)
                    row = row[:at] + (draw.choice(FOUR),) + row[at + draw.choice((0, 1, 1, 1)):]
                if draw.random() < 0.2:
                    row = (draw.choice(("meet", "one", "two", "three")),) + row[1:]
                if len(row) < 4:
                    continue
                value = rows + (row,)
                arrows = plain.told(value)
                if arrows is None:
                    with self.assertRaises(InvalidOperation):
                        arrows_told(FOUR, answers, value)
                else:
                    self.assertEqual(arrows_told(FOUR, answers, value), tuple(sorted(arrows)))
                    if row not in rows:
                        rows = value
                        words.add(row[0])
        self.assertEqual(words, {"meet", "one", "two", "three"})

    def test_no_rows(self):
        answers = answers_of(MEET)
        self.assertEqual(arrows_told(THREE, answers, ()), ())
        self.assertEqual(arrows_told(THREE, answers, (("meet", "a", "b", "c"),)), (("a", "b"), ("c", "b")))
        for value in tuple(value for value in ODDER if value != ()) + (
                [("meet", "a", "b", "c")], (["meet", "a", "b", "c"],), (("meet", "c", "b", "a"),), (("meet", "a", "b"),),
                (("meet", "a", "b", "c", "c"),), (("meet", "a", "b", "q"),), (("meet", "a", "b", 1),), (("Meet", "a", "b", "c"),),
                (("meet", "a", "b", ["c"]),), (("meet", ["a"], "b", "c"),),
                (("one", ["a"], "b", "c"),), (("three", {}, "b", "c", "a"),), ((None, "a", "b", "c"),), (("one", "a", "b", "c"),), ("meet", "a", "b", "c")):
            with self.assertRaises(InvalidOperation, msg=str(value)[:60]):
                arrows_told(THREE, answers, value)


class AnswersTest(unittest.TestCase):
    def test_is_answers(self):
        answers = answers_of(FORK)
        self.assertIs(is_answers(THREE, answers), True)
        self.assertIs(is_answers(("a",), {}), True)
        self.assertIs(is_answers(("a", "b"), {("a", "b", ()): False}), True)
        key = ("a", "b", ())
        less = {k: answers[k] for k in answers if k != key}
        wrong = [less, {**less, ("b", "a", ()): True}, {**answers, ("b", "a", ()): True}, {**answers, key: 1}, {**answers, key: 0},
                 {**answers, key: None}, {**less, ("a", "b", ("q",)): True}, {**less, "a": True}, list(answers.items()), {},
                 {**answers, key: "yes"}, {**less, 0: True}, answers_of(DIAMOND)]
        check_judge(self, lambda value: is_answers(THREE, value), [answers, dict(reversed(answers.items()))], wrong)
        for value in wrong:
            for call in (picture_of_answers, bar_of_answers):
                with self.assertRaises(InvalidOperation):
                    call(THREE, value)

    def test_are_tied(self):
        for diagram in list(bowless_diagrams(FOUR))[::11]:
            answers = answers_of(diagram)
            for a, b in itertools.permutations(FOUR, 2):
                self.assertIs(are_tied(FOUR, answers, a, b), (a, b) in diagram.ties or (b, a) in diagram.ties)

    def test_answers_with_one_thing_seen_do_not_settle_the_picture(self):
        one = Diagram(FOUR, (("a", "b"), ("a", "c"), ("b", "d"), ("c", "d")))
        other = Diagram(FOUR, one.arrows[:2] + (("a", "d"),) + one.arrows[2:])
        first, second = answers_of(one), answers_of(other)
        self.assertTrue(all(first[key] == second[key] for key in first if len(key[2]) < 2))
        self.assertNotEqual(picture_of_answers(FOUR, first), picture_of_answers(FOUR, second))

    def test_errors(self):
        answers = answers_of(FORK)
        no_lots = (None, True, 1, "abc", (), ("b", "a"), ["a"], tuple("abcdefg"), ("A",), (1,), {}, FORK)
        no_answers = ODDER[1:] + (None, list(answers), {**answers, ("a", "b", ()): 1})
        for call in (picture_of_answers, bar_of_answers):
            check_errors(self, call, (THREE, answers), {0: (InvalidLot, no_lots), 1: (InvalidOperation, no_answers)})
        check_errors(self, is_bar_of_answers, (THREE, answers, None), {0: (InvalidLot, no_lots), 1: (InvalidOperation, no_answers)})
        check_errors(self, is_answers, (THREE, None), {0: (InvalidLot, no_lots)})
        check_errors(self, are_tied, (THREE, answers, "a", "b"), {
            0: (InvalidLot, no_lots), 1: (InvalidOperation, no_answers), 2: (UnknownName, NO_THINGS), 3: (UnknownName, NO_THINGS + ("a",))})
        check_errors(self, arrows_told, (THREE, answers, ()), {
            0: (InvalidLot, no_lots), 1: (InvalidOperation, no_answers), 2: (InvalidOperation, (None, [], "", 0, True, {}))})
        self.assertIs(is_answers(("a",), {}), True)


if __name__ == "__main__":
    unittest.main()
