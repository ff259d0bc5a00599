"""Stage 6: things hidden away, and hidden causes that become things."""
import itertools
import unittest

from seenanddone.bars.barred import is_barred
from seenanddone.errors import InvalidDiagram, InvalidLot, InvalidOperation, InvalidWorld, TooMany
from seenanddone.web.diagrams import Diagram
from seenanddone.web.hiding import carrier, is_carrier, projected, unfolded, unfolded_world
from seenanddone.world.worlds import World, even_world
from tests.helper import (
    BACK, BOW, DIAMOND, FORK, FRONT, MEET, NO_DIAGRAMS, NO_LOTS, ODD, ODDER, all_sayings, check_errors, lots_within,
    plain_ahead, plain_meets, plain_trails, rows_of, small_diagrams, some_diagrams, some_world)

BIND = Diagram(("a", "b", "c"), (("b", "c"),), (("a", "b"), ("b", "c")))
THREE = Diagram(("a", "b", "c"), (("a", "b"),), (("a", "b"), ("a", "c"), ("b", "c")))


def many_diagrams():
    yield from list(small_diagrams())[::2]
    yield from some_diagrams(40, 4, 61)
    yield from some_diagrams(20, 5, 62)
    yield from some_diagrams(6, 6, 63, 0.4, 0.2)


def plain_carriers(diagram, seen, start, end):
    """All carriers between two seen things with the sign that they carry."""
    for trail in plain_trails(diagram, start, end):
        if not set(trail[2:-1:2]) & set(seen) and not plain_meets(trail):
            joints = set(trail[1::2])
            yield trail, joints.pop() if joints in ({">"}, {"<"}) else "-"


class ProjectedTest(unittest.TestCase):
    def test_examples(self):
        self.assertEqual(
            [projected(FRONT, ("x", "y")) == BOW, projected(MEET, ("a", "c")).ties, projected(FORK, ("a", "c")).bows,
             projected(BACK, ("x", "y")) == BOW],
            [True, (), (("a", "c"),), True])
        self.assertEqual(projected(FORK, ("b",)), Diagram(("b",)))

    def test_against_all_trails(self):
        for diagram in many_diagrams():
            for seen in lots_within(diagram.things, 1):
                arrows, bows = set(), set()
                for a, b in itertools.combinations(seen, 2):
                    signs = {sign for _, sign in plain_carriers(diagram, seen, a, b)}
                    arrows |= {(a, b)} if ">" in signs else set()
                    arrows |= {(b, a)} if "<" in signs else set()
                    bows |= {(a, b)} if "-" in signs else set()
                self.assertEqual(projected(diagram, seen), Diagram(seen, tuple(sorted(arrows)), tuple(sorted(bows))))
            self.assertEqual(projected(diagram, diagram.things), diagram)

    def test_what_stays(self):
        """[6.2]"""
        for diagram in list(many_diagrams())[::3]:
            for seen in lots_within(diagram.things, 1):
                part = projected(diagram, seen)
                for thing in seen:
                    self.assertEqual(plain_ahead(part, thing), plain_ahead(diagram, thing) & set(seen))
                for x, y, z in list(all_sayings(seen))[::3]:
                    self.assertIs(is_barred(part, x, y, z), is_barred(diagram, x, y, z))
                for lot in lots_within(seen):
                    if lot:
                        self.assertEqual(projected(part, lot), projected(diagram, lot))
                    self.assertEqual(projected(diagram.cut(lot), seen), part.cut(lot))

    def test_seen_tables_have_the_sayings(self):
        """[6.3]"""
        for seed, diagram in enumerate(list(small_diagrams())[::11] + list(some_diagrams(10, 4, 64, bow=0.2))):
            world = some_world(diagram, seed, (2,), (1, 2))
            for seen in lots_within(diagram.things, 2):
                part, table = projected(diagram, seen), world.seen.summed(seen)
                for x, y, z in all_sayings(seen):
                    if is_barred(part, x, y, z):
                        self.assertIs(table.is_free(x, y, z), True)

    def test_three_things_of_one_cause(self):
        """A hidden cause of three things becomes three bows."""
        cause = Diagram(("a", "b", "c", "d"), (("d", "a"), ("d", "b"), ("d", "c")))
        self.assertEqual(projected(cause, ("a", "b", "c")), Diagram(("a", "b", "c"), (), (("a", "b"), ("a", "c"), ("b", "c"))))

    def test_errors(self):
        check_errors(self, projected, (FORK, ("a",)), {0: (InvalidDiagram, NO_DIAGRAMS), 1: (InvalidLot, NO_LOTS + ((),))})


class CarrierTest(unittest.TestCase):
    def test_against_all_trails(self):
        for diagram in many_diagrams():
            for seen in lots_within(diagram.things, 2):
                part = projected(diagram, seen)
                for a, b in itertools.permutations(seen, 2):
                    for sign in (">", "-") if a < b else (">",):
                        every = [trail for trail, told in plain_carriers(diagram, seen, a, b) if told == sign]
                        first = min(every, key=lambda trail: (len(trail), trail)) if every else None
                        self.assertEqual(carrier(diagram, seen, (a, sign, b)), first)
                        self.assertIs(first is not None, (a, b) in (part.arrows if sign == ">" else part.bows))

    def test_judged_trails(self):
        for diagram in list(many_diagrams())[::4]:
            for seen in lots_within(diagram.things, 2)[:6]:
                for a, b in list(itertools.combinations(seen, 2))[:3]:
                    for joint in ((a, ">", b), (a, "-", b), (b, ">", a)):
                        good = {trail for trail, sign in plain_carriers(diagram, seen, joint[0], joint[2]) if sign == joint[1]}
                        for start, end in itertools.permutations(diagram.things, 2):
                            for trail in itertools.islice(plain_trails(diagram, start, end), 30):
                                self.assertIs(is_carrier(diagram, seen, joint, trail), trail in good)
                        for trail in good:
                            self.assertIs(is_carrier(diagram, seen, joint, trail), True)
                            self.assertIs(is_carrier(diagram, seen, joint, list(trail)), False)

    def test_examples(self):
        self.assertEqual(carrier(FRONT, ("x", "y"), ("x", ">", "y")), ("x", ">", "z", ">", "y"))
        self.assertEqual(carrier(FRONT, ("x", "y"), ("x", "-", "y")), ("x", "-", "y"))
        self.assertIsNone(carrier(FRONT, ("x", "y"), ("y", ">", "x")))
        self.assertEqual(carrier(FORK, ("a", "c"), ("a", "-", "c")), ("a", "<", "b", ">", "c"))
        self.assertIsNone(carrier(MEET, ("a", "c"), ("a", "-", "c")))
        # Of two carriers with as many things the first one in Python's order.
        self.assertEqual(carrier(DIAMOND, ("a", "d"), ("a", ">", "d")), ("a", ">", "b", ">", "d"))
        two = Diagram(("a", "b", "c"), (("c", "a"), ("c", "b")), (("a", "c"), ("b", "c")))
        self.assertEqual(carrier(two, ("a", "b"), ("a", "-", "b")), ("a", "-", "c", ">", "b"))
        for value in ODDER + (("x", ">", "y"), ("y", "<", "z", "<", "x"), ["x", ">", "z", ">", "y"], ("x", "-", "y")):
            self.assertIs(is_carrier(FRONT, ("x", "y"), ("x", ">", "y"), value), False)
        self.assertIs(is_carrier(FRONT, ("x", "y"), ("x", ">", "y"), ("x", ">", "z", ">", "y")), True)
        # All longer carriers are accepted, too.
        chain = Diagram(("a", "b", "c"), (("a", "b"), ("a", "c"), ("b", "c")))
        for value in (("a", ">", "c"), ("a", ">", "b", ">", "c")):
            self.assertIs(is_carrier(chain, ("a", "c"), ("a", ">", "c"), value), True)
            self.assertIs(is_carrier(chain, ("a", "c"), ("c", ">", "a"), value), False)

    def test_errors(self):
        joints = (None, True, 1, "x>y", (), [], {}, ["x", ">", "y"], ("x", ">"), ("x", ">", "y", ">"), ("x", "<", "y"), ("x", "", "y"),
                  ("x", None, "y"), ("x", ">", "x"), ("x", "-", "x"), ("y", "-", "x"), ("x", ">", "z"), ("z", ">", "x"), ("x", ">", "q"),
                  ("x", "-", "z"), (["x"], ">", "y"), ("x", [">"], "y"), (1, ">", 2), (None, "-", None), ("x", ">-", "y"), FRONT,
                  ("x", "y", ">"), (("x",), "-", ("y",)), ("x", True, "y"))
        for call, more in ((carrier, ()), (is_carrier, (None,)), (is_carrier, (("x", ">", "z", ">", "y"),))):
            check_errors(self, call, (FRONT, ("x", "y"), ("x", ">", "y")) + more, {
                0: (InvalidDiagram, NO_DIAGRAMS), 1: (InvalidLot, NO_LOTS + ((),)), 2: (InvalidOperation, joints)})


class UnfoldedTest(unittest.TestCase):
    def test_unfolded(self):
        self.assertEqual(unfolded(BOW, {("x", "y"): "h"}), Diagram(("h", "x", "y"), (("h", "x"), ("h", "y"), ("x", "y"))))
        self.assertEqual(unfolded(THREE, {("b", "c"): "a0", ("a", "b"): "z"}), Diagram(
            ("a", "a0", "b", "c", "z"), (("a", "b"), ("a0", "b"), ("a0", "c"), ("z", "a"), ("z", "b")), (("a", "c"),)))
        self.assertEqual(unfolded(FRONT, {}), FRONT)

    def test_projected_back(self):
        """[6.4]"""
        for diagram in many_diagrams():
            for size in range(min(len(diagram.bows), 6 - len(diagram.things)) + 1):
                for bows in itertools.islice(itertools.combinations(diagram.bows, size), 8):
                    names = dict(zip(bows, ("a9", "zz", "b1", "h")))
                    whole = unfolded(diagram, names)
                    self.assertEqual(set(whole.things), set(diagram.things) | set(names.values()))
                    self.assertEqual(whole.bows, tuple(bow for bow in diagram.bows if bow not in names))
                    self.assertEqual(projected(whole, diagram.things), diagram)

    NO_NAMES = (
        None, True, 0, "h", (), [], [(("a", "b"), "h")], {("b", "a"): "h"}, {("a", "b"): "a"}, {("a", "b"): "c"}, {("a", "b"): "H"},
        {("a", "b"): ""}, {("a", "b"): 1}, {("a", "b"): None}, {("a", "b"): ("h",)}, {("a", "b"): "h", ("b", "c"): "h"}, {"ab": "h"},
        {("a", "q"): "h"}, {0: "h"}, {None: None}, {("a", "b", "c"): "h"}, {("a", "b"): "abcdefghi"}, FORK, {("a", "b"): FORK},
        {("a", "b"): ["h"]}, {("a", "b"): "h", ("x", "y"): "i"}, ("h",))

    def test_errors(self):
        check_errors(self, unfolded, (THREE, {("a", "b"): "h"}), {0: (InvalidDiagram, NO_DIAGRAMS), 1: (InvalidOperation, self.NO_NAMES)})
        four = Diagram(("a", "b", "c", "d"), (), tuple(itertools.combinations("abcd", 2)))
        names = dict(zip(four.bows, ("e", "f", "g")))
        with self.assertRaises(TooMany) as caught:
            unfolded(four, names)
        self.assertEqual(caught.exception.limit, 6)
        with self.assertRaises(InvalidOperation):
            unfolded(four, {**names, ("a", "d"): "d"})
        self.assertEqual(len(unfolded(four, dict(list(names.items())[:2]))), 6)


class UnfoldedWorldTest(unittest.TestCase):
    def test_seen_tables(self):
        """[6.5]"""
        for seed, diagram in enumerate(list(small_diagrams())[::5] + list(some_diagrams(15, 4, 65, bow=0.25)) + [BIND, THREE]):
            world = some_world(diagram, seed, (2,), (2, 3) if len(diagram.bows) < 4 else (2,))
            for size in range(min(len(diagram.bows), 6 - len(diagram.things)) + 1):
                for bows in itertools.islice(itertools.combinations(diagram.bows, size), 5):
                    names = dict(zip(bows, ("b0", "zz", "a1")))
                    whole = unfolded_world(world, names)
                    self.assertEqual(whole.diagram, unfolded(diagram, names))
                    self.assertEqual(whole.seen.summed(diagram.things), world.seen)
                    for bow, name in names.items():
                        self.assertEqual(whole.tables[name], {(): world.hidden[bow]})
                        self.assertEqual(whole.sizes[name], len(world.hidden[bow]))
                    self.check_tables(world, whole, names)
            self.assertEqual(unfolded_world(world, {}), world)

    def check_tables(self, world, whole, names):
        """Each table reads the same shares, whatever stands for a hidden thing."""
        old, new = world.diagram, whole.diagram

        def reads(diagram, thing):
            return [a for a, b in diagram.arrows if b == thing] + [bow for bow in diagram.bows if thing in bow]
        for thing in old.things:
            asked = [names.get(part, part) for part in reads(old, thing)]
            for row in rows_of([whole.sizes.get(part) or len(whole.hidden[part]) for part in reads(new, thing)]):
                values = dict(zip(reads(new, thing), row))
                self.assertEqual(whole.tables[thing][row], world.tables[thing][tuple(values[part] for part in asked)])
        self.assertEqual(whole.hidden, {bow: world.hidden[bow] for bow in new.bows})

    def test_errors(self):
        world = even_world(THREE)
        no_worlds = ODD + (THREE, world.seen, [world])
        check_errors(self, unfolded_world, (world, {("a", "b"): "h"}), {
            0: (InvalidWorld, no_worlds), 1: (InvalidOperation, UnfoldedTest.NO_NAMES)})

    def test_one_value_alone(self):
        tables = {thing: {row: ((1, 2), (1, 2)) for row in rows} for thing, rows in (
            ("a", [(0, k) for k in (0, 1)]), ("b", [(a, 0, 0) for a in (0, 1)]), ("c", [(k, 0) for k in (0, 1)]))}
        world = World(THREE, {"a": 2, "b": 2, "c": 2}, {("a", "b"): ((1, 1),), ("a", "c"): ((1, 2), (1, 2)), ("b", "c"): ((1, 1),)},
                      tables)
        self.assertEqual(unfolded_world(world, {("a", "c"): "h"}).seen.summed(("a", "b", "c")), world.seen)
        for names in ({("a", "b"): "h"}, {("a", "c"): "h", ("b", "c"): "i"}):
            with self.assertRaises(InvalidOperation):
                unfolded_world(world, names)
        four = Diagram(("a", "b", "c", "d"), (), tuple(itertools.combinations("abcd", 2)))
        half, sure = ((1, 2), (1, 2)), ((1, 1),)
        hidden = {bow: sure if bow == ("a", "b") else half for bow in four.bows}
        tables = {thing: {row: half for row in rows_of([len(hidden[bow]) for bow in four.bows if thing in bow])} for thing in "abcd"}
        world = World(four, {thing: 2 for thing in "abcd"}, hidden, tables)
        with self.assertRaises(InvalidOperation):
            unfolded_world(world, dict(zip(four.bows, ("e", "f", "g"))))
        with self.assertRaises(TooMany) as caught:
            unfolded_world(world, dict(zip(four.bows[1:], ("e", "f", "g"))))
        self.assertEqual(caught.exception.limit, 6)
        self.assertEqual(len(unfolded_world(world, dict(zip(four.bows[1:], ("e", "f"))))), 64)

    def test_rows(self):
        """At most 4096 rows, and one bound ahead of the other."""
        bowed = Diagram(("a", "b", "c"), (), (("a", "b"), ("b", "c")))
        for sizes, many, good in (((16, 16, 4), 4, True), ((16, 16, 4), 5, False), ((16, 16, 16), 2, False), ((16, 16, 8), 2, True)):
            sizes = dict(zip("abc", sizes))
            hidden = {("a", "b"): ((1, many),) * many, ("b", "c"): ((1, 2), (1, 2))}
            counts = {"a": [many], "b": [many, 2], "c": [2]}
            tables = {thing: {row: ((1, sizes[thing]),) * sizes[thing] for row in rows_of(counts[thing])} for thing in "abc"}
            world = World(bowed, sizes, hidden, tables)
            if good:
                self.assertEqual(len(unfolded_world(world, {("a", "b"): "h"})), 16 * 16 * sizes["c"] * many)
            else:
                with self.assertRaises(TooMany) as caught:
                    unfolded_world(world, {("a", "b"): "h"})
                self.assertEqual(caught.exception.limit, 4096)
        six = Diagram(("a", "b", "c", "d", "e", "f"), (), (("a", "b"),))
        with self.assertRaises(TooMany) as caught:
            unfolded_world(even_world(six, 4), {("a", "b"): "h"})
        self.assertEqual(caught.exception.limit, 6)
        five = Diagram(("a", "b", "c", "d", "e"), (), (("a", "b"),))
        with self.assertRaises(TooMany) as caught:
            unfolded_world(even_world(five, 5), {("a", "b"): "h"})
        self.assertEqual(caught.exception.limit, 4096)

    def test_arguments_stay(self):
        names = {("b", "c"): "h", ("a", "b"): "g"}
        world, twin = even_world(THREE), even_world(THREE)
        unfolded_world(world, names)
        unfolded(THREE, names)
        self.assertEqual(list(names.items()), [(("b", "c"), "h"), (("a", "b"), "g")])
        self.assertEqual(world, twin)


if __name__ == "__main__":
    unittest.main()
