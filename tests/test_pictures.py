"""Stage 10: pictures."""
import itertools
import math
import random
import unittest

from seenanddone.errors import InvalidDiagram, InvalidLot, InvalidNumber, InvalidOperation, InvalidWeb, Refused, UnknownName
from seenanddone.same.pictures import (
    Picture, is_sure_rows, is_two_members, picture_of, sure_rows, turned_from, two_members)
from seenanddone.same.sayings import answers_of
from seenanddone.ties.webs import Web, corner_order
from seenanddone.web.diagrams import Diagram
from tests.helper import (
    BOW, FORK, MEET, NO_DIAGRAMS, NO_THINGS, ODDER, bowless_diagrams, check_errors, check_judge, some_diagrams)

FOUR = ("a", "b", "c", "d")
SIX = ("a", "b", "c", "d", "e", "f")
ALL = Diagram(SIX, tuple(itertools.combinations(SIX, 2)))


def picture_groups(things):
    """The lists of all diagrams without bows that have the same sayings."""
    groups = {}
    for diagram in bowless_diagrams(things):
        groups.setdefault(str(answers_of(diagram)), []).append(diagram)
    return list(groups.values())


GROUPS = [group for size in (1, 2, 3, 4) for group in picture_groups(FOUR[:size])]


def plain_picture(group):
    """The arrows that all have, and the other ties."""
    arrows = set(group[0].arrows).intersection(*(set(diagram.arrows) for diagram in group))
    return tuple(sorted(arrows)), tuple(pair for pair in group[0].ties if not {pair, pair[::-1]} & arrows)


def joined_up(things, ties):
    """The lots of two or more things that rows of ties join."""
    left, found = list(things), []
    while left:
        lot = {left[0]}
        for _ in things:
            lot |= {t for pair in ties for t in pair if set(pair) & lot}
        left = [t for t in left if t not in lot]
        if len(lot) > 1:
            found.append(tuple(sorted(lot)))
    return tuple(found)


def turned_lots(ties):
    """The sets of arrows that turn all ties so that no ring is made and nothing new meets, by all ways to do so."""
    tied = set(ties) | {(b, a) for a, b in ties}
    found = []
    for turns in itertools.product((False, True), repeat=len(ties)):
        arrows = {(b, a) if turn else (a, b) for (a, b), turn in zip(ties, turns)}
        if any(b == d and a != c and (a, c) not in tied for a, b in arrows for c, d in arrows):
            continue
        left = {t for pair in ties for t in pair}
        while any(not any(b == t and a in left for a, b in arrows) for t in left):
            left -= {t for t in left if not any(b == t and a in left for a, b in arrows)}
        if not left:
            found.append(arrows)
    return found


class PictureTest(unittest.TestCase):
    def test_against_all_diagrams(self):
        for group in GROUPS:
            arrows, open_ties = plain_picture(group)
            group = sorted(group, key=lambda diagram: diagram.arrows)
            for diagram in group:
                picture = picture_of(diagram)
                self.assertEqual((picture.things, picture.arrows, picture.open_ties), (diagram.things, arrows, open_ties))
            self.assertEqual(picture, Picture(diagram.things, arrows, open_ties))
            self.assertEqual(list(picture.members()), group)
            self.assertEqual(picture.ways, len(group))
            self.assertEqual(picture.pieces, joined_up(diagram.things, open_ties))
            for index, diagram in enumerate(group):
                self.assertEqual(picture.member(index), diagram)
                self.assertEqual(picture.index_of(diagram), index)
                self.assertIs(diagram in picture, True)
            for value in (-1, len(group), None, True, "0", (0,), 10 ** 1000):
                with self.assertRaises(InvalidNumber) as caught:
                    picture.member(value)
                self.assertEqual(caught.exception.given, value)

    def test_which_arrows_and_ties_are_no_picture(self):
        told = {(g[0].things,) + plain_picture(g) for g in GROUPS}
        for size in (1, 2, 3, 4):
            things = FOUR[:size]
            pairs = list(itertools.combinations(things, 2))
            for turns in itertools.product(range(4), repeat=len(pairs)):
                arrows = tuple(sorted(
                    (a, b) if turn == 1 else (b, a) for (a, b), turn in zip(pairs, turns) if turn in (1, 2)))
                open_ties = tuple(pair for pair, turn in zip(pairs, turns) if turn == 3)
                if (things, arrows, open_ties) in told:
                    Picture(things, arrows, open_ties)
                else:
                    with self.assertRaises(InvalidWeb):
                        Picture(things, arrows, open_ties)

    def test_many_of_five_and_six(self):
        for size in (5, 6):
            for diagram in some_diagrams(40, size, 30 + size, 0.45, 0):
                picture = picture_of(diagram)
                self.assertIs(diagram in picture, True)
                self.assertEqual(picture.member(picture.index_of(diagram)), diagram)
                members = list(picture.members())
                self.assertEqual([m.arrows for m in members], sorted({m.arrows for m in members}))
                same = str(answers_of(diagram))
                for member in members[:6] + members[-3:]:
                    self.assertEqual(str(answers_of(member)), same)
                self.assertEqual(plain_picture(members), (picture.arrows, picture.open_ties))
                by_piece = [turned_lots([t for t in picture.open_ties if t[0] in piece]) for piece in picture.pieces]
                self.assertEqual(picture.ways, math.prod(len(turned) for turned in by_piece))
                self.assertIsNotNone(corner_order(Web(picture.things, picture.open_ties)))

    def test_six_things_all_tied(self):
        picture = picture_of(ALL)
        self.assertEqual((picture.ways, len(picture), picture.arrows, picture.pieces), (720, 6, (), (SIX,)))
        self.assertEqual(len({member.arrows for member in picture.members()}), 720)
        self.assertEqual(picture.index_of(ALL), 0)
        # Two cliques with one common thing are turned in less ways than both together.
        ties = tuple(pair for pair in ALL.arrows if set(pair) <= set("abc") or set(pair) <= set("cdef"))
        picture = Picture(SIX, (), ties)
        self.assertEqual(picture.ways, len(turned_lots(ties)))
        self.assertLess(picture.ways, math.factorial(3) * math.factorial(4))

    def test_equal_and_in(self):
        picture = picture_of(FORK)
        self.assertEqual(picture, picture_of(Diagram(FORK.things, (("a", "b"), ("b", "c")))))
        for other in (picture_of(MEET), None, FORK, Picture(("a", "b")), Web(FORK.things, FORK.ties),
                      Picture(("a", "b", "c", "d"), (), picture.open_ties), Picture(FORK.things, (), (("a", "b"),))):
            self.assertNotEqual(picture, other)
        self.assertNotEqual(Picture(("a", "b")), Picture(("a", "c")))
        self.assertNotEqual(Picture(FORK.things), picture_of(MEET))
        self.assertNotEqual(Picture(FOUR, (("a", "b"), ("c", "b"))), Picture(FOUR, (("a", "b"), ("c", "b"), ("d", "b"))))
        self.assertEqual(str(picture), "picture of 3 things, 0 arrows, 2 open ties")
        self.assertEqual(str(picture_of(MEET)), "picture of 3 things, 2 arrows, 0 open ties")
        bowed = Diagram(FORK.things, FORK.arrows, (("a", "c"),))
        self.assertIs(Diagram(FOUR, FORK.arrows) in picture, False)
        for value in ODDER[:len(ODDER) - 5] + (MEET, bowed, Diagram(("b", "c")), picture, None, FORK.arrows):
            self.assertIs(value in picture, False)
        self.assertIs(MEET in picture_of(MEET), True)
        with self.assertRaises(TypeError):
            iter(picture)
        for value in NO_DIAGRAMS:
            with self.assertRaises(InvalidDiagram):
                picture.index_of(value)
        for value in (MEET, bowed, BOW, Diagram(("b", "c"))):
            with self.assertRaises(InvalidOperation):
                picture.index_of(value)

    def test_errors(self):
        for args in ((), (None,), (("b", "a"),), (["a"],), (tuple("abcdefg"),), ((),), ("a",), (FORK.things, None),
                     (None, (("a", "b"), ("c", "b"))), ("abc", (("a", "b"), ("c", "b"))), (["a", "b", "c"], (("a", "b"), ("c", "b"))),
                     (FORK.things, (("a", "a"),)), (FORK.things, [("a", "b")]), (FORK.things, (), (("b", "a"),)),
                     (FORK.things, (), [("a", "b")]), (FORK.things, (("a", "b"),)), (FORK.things, (("a", "b"), ("b", "a"))),
                     (FORK.things, (("a", "b"),), (("a", "b"),)), (FORK.things, (), (("a", "q"),)), (FORK.things, (), None),
                     (FORK.things, (("a", "b"), ("b", "c"), ("c", "a"))), (FORK.things, (("c", "b"), ("a", "b"))), (FORK,)):
            with self.assertRaises(TypeError if args == () else InvalidWeb, msg=args):
                Picture(*args)
        check_errors(self, picture_of, (FORK,), {0: (InvalidDiagram, NO_DIAGRAMS)})
        with self.assertRaises(Refused) as caught:
            picture_of(BOW)
        self.assertEqual(caught.exception.reason, ("bows",))


class PaperTest(unittest.TestCase):
    def test_rows_or_two_members(self):
        cases = [picture_of(group[0]) for group in GROUPS]
        cases += [picture_of(d) for size in (5, 6) for d in some_diagrams(80, size, 40 + size, 0.5, 0)]
        words = set()
        for picture in cases:
            members = list(picture.members())
            for tie in members[0].ties:
                rows, pair = sure_rows(picture, tie), two_members(picture, tie)
                is_open = tie in picture.open_ties
                self.assertIs(rows is None, is_open)
                self.assertIs(pair is not None, is_open)
                self.assertIs(is_sure_rows(picture, tie, rows), not is_open)
                self.assertIs(is_two_members(picture, tie, pair), is_open)
                if is_open:
                    self.assertIn(tie, pair[0].arrows)
                    self.assertIn(tie[::-1], pair[1].arrows)
                    self.assertTrue(all(member in members for member in pair))
                else:
                    words.update(row[0] for row in rows)
                    self.assertLessEqual(len(rows), 30)
                    self.check_rows(picture, tie, rows)
        self.assertEqual(words, {"meet", "one", "two", "three"})

    def check_rows(self, picture, tie, rows):
        """[10.2], rule by rule."""
        ties = {frozenset(pair) for pair in picture.arrows + picture.open_ties}
        told = set()
        for word, a, b, c, *rest in rows:
            if word == "meet":
                self.assertTrue(a < c and frozenset((a, c)) not in ties)
                told |= {(a, b), (c, b)}
            elif word == "one":
                self.assertTrue((a, b) in told and frozenset((a, c)) not in ties)
                told.add((b, c))
            elif word == "two":
                self.assertTrue({(a, b), (b, c)} <= told)
                told.add((a, c))
            else:
                d = rest[0]
                self.assertTrue(c < d and {(c, b), (d, b)} <= told and {frozenset((a, c)), frozenset((a, d))} <= ties)
                self.assertNotIn(frozenset((c, d)), ties)
                told.add((a, b))
        self.assertLessEqual(told, set(picture.arrows))
        self.assertTrue({tie, tie[::-1]} & told)

    def test_judge_of_rows(self):
        picture = picture_of(Diagram(FOUR, (("a", "c"), ("b", "c"), ("c", "d"))))
        meet, one = ("meet", "a", "c", "b"), ("one", "a", "c", "d")
        check_judge(self, lambda value: is_sure_rows(picture, ("c", "d"), value), [
            (meet, one), (meet, ("one", "b", "c", "d")), (meet,) * 29 + (one,), (meet, one, one)], [
            (one,), (one, meet), (meet,), (), [meet, one], (meet, list(one)), (meet, one, meet), (meet,) * 30 + (one,),
            (("meet", "b", "c", "a"), one), (meet, ("one", "a", "c", "b"), one), (meet, ("one", "d", "c", "a"), one),
            (meet, ("two", "a", "c", "d")), (meet, one, ("two", "a", "c", "d")), (meet, one + ("a",)), (meet, one[:3]),
            (meet, ("one", "a", "c", "q")), (meet, ("one", "a", "c", 1)), (meet, ("One", "a", "c", "d")), (meet, (None, "a", "c", "d")),
            (meet, ("three", "a", "c", "d")), (meet, ("one", "a", "c", ["d"])), (("meet", "a", "c", "d"), one), "meet",
            (meet, ("meet", ["a"], "c", "b"), one), (meet, ("three", [], "a", "b", "c"), one), (("meet", 1, "c", "b"), meet, one),
            (meet, ("one", "a", "c", "d", "b")), (meet, ("one", "a", "c", "d", "b", "a")), (meet, ("three", "a", "c", "d", "b", "a")),
            (meet, ("four", "a", "c", "d")), (("meet", "a", "d", "b"), ("one", "a", "c", "d"))])
        check_judge(self, lambda value: is_sure_rows(picture, ("a", "c"), value), [(meet,), (meet, meet)], [(meet, one), ()])
        # No rows for an open tie, not even such as tell arrows of it by a wrong row.
        fork = picture_of(FORK)
        for rows in ((("meet", "a", "b", "c"),), (("one", "a", "b", "c"),), ()):
            self.assertIs(is_sure_rows(fork, ("a", "b"), rows), False)

    def told_by_rules(self, picture, rows):
        """The arrows that rows tell one after the other, as [10.2] has them, or None."""
        ties = {frozenset(pair) for pair in picture.arrows + picture.open_ties}
        told = set()
        for word, a, b, *rest in rows:
            c, d = rest[0], rest[-1]
            parted = frozenset((a, c)) not in ties
            if word == "meet" and len(rest) == 1 and a < c and parted:
                more = {(a, b), (c, b)}
            elif word == "one" and len(rest) == 1 and (a, b) in told and parted:
                more = {(b, c)}
            elif word == "two" and len(rest) == 1 and {(a, b), (b, c)} <= told:
                more = {(a, c)}
            elif (word == "three" and len(rest) == 2 and c < d and {(c, b), (d, b)} <= told and frozenset((c, d)) not in ties
                  and {frozenset((a, c)), frozenset((a, d))} <= ties):
                more = {(a, b)}
            else:
                return None
            told |= more
            if not more <= set(picture.arrows):
                return None
        return told

    def test_each_row_behind_all_others(self):
        """Behind rows that tell all arrows, each row of the things, right or not."""
        cases = [group[0] for group in GROUPS[-170::12]] + list(some_diagrams(8, 5, 58, 0.6, 0))
        cases.append(Diagram(("a", "b", "c", "d", "e"), (
            ("a", "b"), ("a", "c"), ("a", "d"), ("c", "b"), ("c", "d"), ("d", "b"), ("e", "b"))))
        for diagram in cases:
            picture = picture_of(diagram)
            rows = ()
            for tie in diagram.ties:
                rows = rows + tuple(row for row in sure_rows(picture, tie) or () if row not in rows)
            every = [(word,) + row for word in ("meet", "one", "two", "four") for row in itertools.product(picture.things, repeat=3)]
            every += [(word,) + row for word in ("three", "one") for row in itertools.permutations(picture.things, 4)]
            for row in every:
                value = rows + (row,)
                told = self.told_by_rules(picture, value)
                arrows = {"one": [row[2:4]], "two": [row[1:4:2]], "three": [row[1:3]]}.get(row[0], [row[1:3], row[3:1:-1]])
                for tie in diagram.ties:
                    is_paper = told is not None and (tie in arrows or tie[::-1] in arrows)
                    self.assertIs(is_sure_rows(picture, tie, value), is_paper, (picture.arrows, picture.open_ties, value))

    def test_judge_of_rows_by_chance(self):
        draw = random.Random(8)
        words = set()
        for group in GROUPS[::2] + [[d] for d in some_diagrams(12, 5, 48, 0.6, 0)]:
            picture = picture_of(group[0])
            if len(picture) < 3 or not picture.arrows:
                continue
            rows = ()
            every = [(word,) + row for word in ("meet", "one", "two") for row in itertools.permutations(picture.things, 3)]
            every += [("three",) + row for row in itertools.permutations(picture.things, 4)]
            for step in range(120):
                good = [row for row in every if self.told_by_rules(picture, rows + (row,)) is not None] if step % 10 == 0 else good
                row = draw.choice(good)
                for _ in range(draw.choice((0, 0, 1, 2))):
                    at = draw.randrange(1, len(row) + 1)
                    row = row[:at] + (draw.choice(picture.things),) + row[at + draw.choice((0, 1, 1, 1)):]
                if draw.random() < 0.2:
                    row = (draw.choice(("meet", "one", "two", "three")),) + row[1:]
                if len(row) < 4:
                    continue
                value = rows + (row,)
                told = self.told_by_rules(picture, value)
                for tie in group[0].ties:
                    is_paper = told is not None and len(value) <= 30 and bool(self.last_told(row) & {tie, tie[::-1]})
                    self.assertIs(is_sure_rows(picture, tie, value), is_paper, (picture.arrows, value, tie))
                if told is not None and row not in rows and len(rows) < 20:
                    rows = value
                    words.add(row[0])
        self.assertEqual(words, {"meet", "one", "two", "three"})

    def last_told(self, row):
        word, a, b, c = row[:4]
        return {"meet": {(a, b), (c, b)}, "one": {(b, c)}, "two": {(a, c)}, "three": {(a, b)}}[word]

    def test_rule_three(self):
        # b and c tell d; a is tied to all of them.
        picture = picture_of(Diagram(FOUR, (("a", "b"), ("a", "c"), ("a", "d"), ("b", "d"), ("c", "d"))))
        self.assertEqual(picture.arrows, (("a", "d"), ("b", "d"), ("c", "d")))
        meet = ("meet", "b", "d", "c")
        check_judge(self, lambda value: is_sure_rows(picture, ("a", "d"), value), [(meet, ("three", "a", "d", "b", "c"))], [
            (meet, ("three", "a", "d", "c", "b")), (("three", "a", "d", "b", "c"),), (meet, ("three", "d", "a", "b", "c")),
            (meet, ("three", "a", "d", "b", "b")), (meet, ("two", "a", "b", "d")), (meet, ("one", "a", "b", "d"))])
        self.assertEqual(sure_rows(picture, ("a", "d")), (meet, ("three", "a", "d", "b", "c")))

    def test_judge_of_members(self):
        picture = picture_of(FORK)
        left, both, right = picture.members()
        check_judge(self, lambda value: is_two_members(picture, ("a", "b"), value), [(left, both), (left, right)], [
            (both, left), (left, left), (both, right), (both, both), [left, both], (left,), (left, both, right), (left, MEET), (MEET, both), (left.arrows, both.arrows),
            (left, None), (left, Diagram(both.things, both.arrows, (("a", "c"),)))])
        for pair in itertools.product(picture_of(MEET).members(), repeat=2):
            self.assertIs(is_two_members(picture_of(MEET), ("a", "b"), pair), False)

    def test_errors(self):
        picture = picture_of(MEET)
        no_pictures = ODDER + (MEET, Web(MEET.things, MEET.ties))
        no_ties = ODDER + (("b", "a"), ("a", "c"), ["a", "b"], ("a", "b", "c"), ("a",), "ab")
        for call in (sure_rows, two_members):
            check_errors(self, call, (picture, ("a", "b")), {0: (InvalidWeb, no_pictures), 1: (InvalidOperation, no_ties)})
        for call in (is_sure_rows, is_two_members):
            check_errors(self, call, (picture, ("a", "b"), None), {0: (InvalidWeb, no_pictures), 1: (InvalidOperation, no_ties)})


class SourceTest(unittest.TestCase):
    def check_picture(self, picture):
        members = list(picture.members())
        whole = 1
        for piece in picture.pieces:
            inner = [pair for pair in picture.open_ties if pair[0] in piece]
            turned = turned_lots(inner)
            whole *= len(turned)
            ways = 0
            for thing in piece:
                arrows = turned_from(picture, piece, thing)
                rooted = [lot for lot in turned if not any(b == thing for _, b in lot)]
                self.assertTrue(rooted)
                self.assertEqual(arrows, tuple(sorted(set.intersection(*rooted))))
                self.assertTrue(any(
                    not any(b == thing and a in piece for a, b in member.arrows) and set(arrows) <= set(member.arrows)
                    for member in members))
                left = [pair for pair in inner if pair not in arrows and pair[::-1] not in arrows]
                ways += math.prod(len(turned_lots([pair for pair in left if pair[0] in lot])) for lot in joined_up(piece, left))
            self.assertEqual(ways, len(turned))
            for lot in turned:
                self.assertEqual(len([t for t in piece if not any(b == t for _, b in lot)]), 1)
        self.assertEqual(whole, picture.ways)

    def test_small_pictures(self):
        for group in GROUPS:
            self.check_picture(picture_of(group[0]))

    def test_pieces_of_five_and_six(self):
        """Webs of open ties that have a corner order."""
        for size in (5, 6):
            for diagram in some_diagrams(40, size, 60 + size, 0.5, 0):
                web = Web(diagram.things, diagram.ties)
                if corner_order(web) is not None:
                    self.check_picture(Picture(diagram.things, (), diagram.ties))
                self.check_picture(picture_of(diagram))

    def test_errors(self):
        picture = picture_of(FORK)
        self.assertEqual(turned_from(picture, ("a", "b", "c"), "a"), (("a", "b"), ("b", "c")))
        self.assertEqual(turned_from(picture, ("a", "b", "c"), "b"), (("b", "a"), ("b", "c")))
        check_errors(self, turned_from, (picture, ("a", "b", "c"), "a"), {
            0: (InvalidWeb, ODDER + (FORK,)), 1: (InvalidLot, ODDER + (("a", "b"), ["a", "b", "c"], ("a", "c", "b"))),
            2: (UnknownName, NO_THINGS)})
        with self.assertRaises(UnknownName):
            turned_from(Picture(FOUR, (), (("a", "b"), ("c", "d"))), ("a", "b"), "c")
        with self.assertRaises(InvalidLot):
            turned_from(picture_of(MEET), MEET.things, "a")


if __name__ == "__main__":
    unittest.main()
