"""Stage 4: barred or not, with the papers of both."""
import itertools
import unittest

from seenanddone.bars.barred import bar_cut, is_bar_cut, is_barred, is_open_trail, marriages, open_trail
from seenanddone.errors import InvalidDiagram, InvalidLot
from seenanddone.web.diagrams import Diagram
from seenanddone.world.worlds import even_world
from tests.helper import (
    BACK, BOW, DIAMOND, FORK, FRONT, MEET, NO_DIAGRAMS, NO_LOTS, ODDER, all_sayings, check_errors, lots_within, plain_ahead,
    plain_barred, plain_meets, plain_trails, small_diagrams, some_diagrams, some_sayings)


def cases():
    """Pairs of a diagram and some sayings: all of up to three things, and many of four to six."""
    for diagram in small_diagrams():
        yield diagram, list(all_sayings(diagram.things))
    for size, many, sayings in ((4, 120, 40), (5, 50, 25), (6, 20, 12)):
        for seed, diagram in enumerate(some_diagrams(many, size, size)):
            yield diagram, some_sayings(diagram.things, sayings, seed)


def plain_web(diagram, lot):
    """The web of marriages, by a look at all trails within the lot."""
    return tuple(
        (a, b) for a, b in itertools.combinations(lot, 2)
        if any(set(trail[::2]) <= set(lot) and plain_meets(trail) == list(trail[2:-1:2])
               for trail in plain_trails(diagram, a, b)))


def plain_ways(diagram, start):
    ways = [(start,)]
    for way in ways:
        ways.extend(way + (b,) for a, b in diagram.arrows if a == way[-1])
    return ways


def plain_is_open_trail(diagram, x, y, z, trail, ways):
    """What [4.3] says of a trail of the diagram and ways of it."""
    meets, inner = plain_meets(trail), trail[2:-1:2]
    if trail[0] not in x or trail[-1] not in y or set(inner) & set(x + y) or set(ways) != set(meets):
        return False
    if any(thing in z for thing in inner if thing not in meets):
        return False
    for thing, way in ways.items():
        if way[0] != thing or way[-1] not in z or set(way[:-1]) & set(z) or set(way[1:]) & set(trail[::2]):
            return False
    return all(not set(one) & set(other) for one, other in itertools.combinations(ways.values(), 2))


def plain_open_trails(diagram, x, y, z, many=10000):
    """All open trails with their ways."""
    found = []
    for a, b in itertools.product(x, y):
        for trail in plain_trails(diagram, a, b):
            meets = plain_meets(trail)
            for ways in itertools.product(*(plain_ways(diagram, thing) for thing in meets)):
                value = (trail, dict(zip(meets, ways)))
                if plain_is_open_trail(diagram, x, y, z, *value):
                    found.append(value)
                    if len(found) == many:
                        return found
    return found


class MarriageTest(unittest.TestCase):
    def test_examples(self):
        self.assertEqual(marriages(MEET, ("a", "b", "c")), (("a", "b"), ("a", "c"), ("b", "c")))
        self.assertEqual(marriages(MEET, ("a", "c")), ())
        self.assertEqual(marriages(FORK, ("a", "b", "c")), (("a", "b"), ("b", "c")))
        self.assertEqual(marriages(FORK, ()), ())
        self.assertEqual(marriages(BOW, ("x",)), ())

    def test_against_all_trails(self):
        for diagram, _ in cases():
            lots = lots_within(diagram.things)
            for lot in lots if len(lots) < 20 else lots[::5] + lots[-1:]:
                self.assertEqual(marriages(diagram, lot), plain_web(diagram, lot))

    def test_a_row_of_bows(self):
        row = Diagram(("a", "b", "c", "d"), (("a", "b"), ("d", "c")), (("b", "c"),))
        self.assertEqual(marriages(row, row.things), tuple(itertools.combinations(row.things, 2)))
        self.assertEqual(marriages(row, ("a", "b", "d")), (("a", "b"),))

    def test_errors(self):
        check_errors(self, marriages, (FORK, ("a",)), {0: (InvalidDiagram, NO_DIAGRAMS), 1: (InvalidLot, NO_LOTS)})


class BarredTest(unittest.TestCase):
    def test_examples(self):
        self.assertIs(is_barred(FORK, ("a",), ("c",), ("b",)), True)
        self.assertIs(is_barred(MEET, ("a",), ("c",), ("b",)), False)
        self.assertEqual(bar_cut(FORK, ("a",), ("c",), ("b",)), ("a",))
        self.assertEqual(open_trail(MEET, ("a",), ("c",), ("b",)), (("a", ">", "b", "<", "c"), {"b": ("b",)}))
        self.assertIsNone(open_trail(FORK, ("a",), ("c",), ("b",)))
        self.assertIsNone(bar_cut(FORK, ("a",), ("c",), ()))

    def test_one_paper_and_never_both(self):
        told = set()
        for diagram, sayings in cases():
            for x, y, z in sayings:
                barred = plain_barred(diagram, x, y, z)
                told.add(barred)
                self.assertIs(is_barred(diagram, x, y, z), barred)
                cut, trail = bar_cut(diagram, x, y, z), open_trail(diagram, x, y, z)
                self.assertIs(cut is not None, barred)
                self.assertIs(trail is None, barred)
                self.assertIs(is_bar_cut(diagram, x, y, z, cut), barred)
                self.assertIs(is_open_trail(diagram, x, y, z, trail), not barred)
                if trail is not None:
                    self.assertTrue(plain_is_open_trail(diagram, x, y, z, *trail))
                    self.assertEqual(list(trail[1]), sorted(trail[1]))
                    self.assertEqual(open_trail(diagram, x, y, z), trail)
        self.assertEqual(told, {True, False})

    def test_turned_about(self):
        for diagram, sayings in list(cases())[::9]:
            for x, y, z in sayings:
                self.assertIs(is_barred(diagram, x, y, z), is_barred(diagram, y, x, z))

    def test_what_is_not_true(self):
        """Seeing more does not bar more, and a greater lot than a bar cut need not be one."""
        self.assertIs(is_barred(MEET, ("a",), ("c",), ()), True)
        self.assertIs(is_barred(MEET, ("a",), ("c",), ("b",)), False)
        row = Diagram(("a", "b", "c", "d"), (("a", "b"), ("c", "b"), ("c", "d")))
        self.assertIs(is_bar_cut(row, ("a",), ("d",), (), ("a",)), True)
        self.assertIs(is_bar_cut(row, ("a",), ("d",), (), ("a", "b")), False)
        self.assertIs(is_bar_cut(row, ("a",), ("d",), (), ("a", "c")), False)


class BarCutTest(unittest.TestCase):
    def test_all_lots(self):
        for diagram, sayings in list(cases())[::2]:
            for x, y, z in sayings:
                whole = set(x + y + z).union(*(plain_ahead(diagram, thing) for thing in x + y + z))
                web = plain_web(diagram, tuple(sorted(whole)))
                for lot in lots_within(diagram.things):
                    good = set(lot) <= whole and set(x) <= set(lot) and not set(lot) & set(y + z) and all(
                        (a in lot) == (b in lot) or (b if a in lot else a) in z for a, b in web)
                    self.assertIs(is_bar_cut(diagram, x, y, z, lot), good)

    def test_other_values(self):
        for value in ODDER + NO_LOTS + (("b",), ("a", "b"), ("a", "c"), ("a", "a"), ["a"], "a", {"a": 1}, ("a", "q"), ()):
            self.assertIs(is_bar_cut(FORK, ("a",), ("c",), ("b",), value), False)
        self.assertIs(is_bar_cut(FORK, ("a",), ("c",), ("b",), ("a",)), True)


class OpenTrailTest(unittest.TestCase):
    def test_all_trails_and_ways(self):
        for diagram, sayings in list(cases())[::4]:
            for x, y, z in sayings[:12]:
                seen = 0
                for a, b in itertools.permutations(diagram.things, 2):
                    for trail in plain_trails(diagram, a, b):
                        meets = plain_meets(trail)
                        for ways in itertools.islice(itertools.product(*(plain_ways(diagram, thing) for thing in meets)), 6):
                            told = dict(zip(reversed(meets), reversed(ways)))
                            good = plain_is_open_trail(diagram, x, y, z, trail, told)
                            self.assertIs(is_open_trail(diagram, x, y, z, (trail, told)), good)
                            seen += 1
                    if seen > 150:
                        break

    def test_near_values(self):
        diagram = Diagram(("a", "b", "c", "d"), (("a", "b"), ("b", "d"), ("c", "b")))
        trail, ways = ("a", ">", "b", "<", "c"), {"b": ("b", "d")}
        self.assertIs(is_open_trail(diagram, ("a",), ("c",), ("d",), (trail, ways)), True)
        self.assertEqual(open_trail(diagram, ("a",), ("c",), ("d",)), (trail, ways))
        for value in ((trail, {}), (trail, {"b": ("b",)}), (trail, {"b": ["b", "d"]}), (trail, {"b": ("d",)}), (trail, {"b": None}),
                      (trail, {"b": ("b", "d"), "c": ("c",)}), (trail, {"c": ("b", "d")}), (trail, [("b", ("b", "d"))]), (trail,),
                      (trail, ways, ()), [trail, ways], trail, ways, (list(trail), ways), (trail[::-1], ways), (ways, trail),
                      (("c", ">", "b", "<", "a"), ways), (("a", ">", "b"), {}), (trail, {"b": ("b", "d", "d")}), (trail, None),
                      (trail, {"b": "bd"}), (trail, {"b": ()}), (trail, {("b",): ("b", "d")}), (trail, {"b": ("b", ["d"])})):
            self.assertIs(is_open_trail(diagram, ("a",), ("c",), ("d",), value), False, value)
        # A thing of z is told by itself, not by a way to another thing of z.
        self.assertIs(is_open_trail(diagram, ("a",), ("c",), ("b", "d"), (trail, {"b": ("b",)})), True)
        self.assertIs(is_open_trail(diagram, ("a",), ("c",), ("b", "d"), (trail, ways)), False)
        for value in ODDER:
            self.assertIs(is_open_trail(diagram, ("a",), ("c",), ("d",), value), False)

    def test_ways_that_are_not_apart(self):
        diagram = Diagram(("a", "b", "c", "d", "e"), (("a", "b"), ("b", "d"), ("c", "d"), ("e", "c")), (("b", "c"),))
        trail = ("a", ">", "b", "-", "c", "<", "e")
        ways = {"b": ("b", "d"), "c": ("c", "d")}
        self.assertIs(is_barred(diagram, ("a",), ("e",), ("d",)), False)
        self.assertIs(is_open_trail(diagram, ("a",), ("e",), ("d",), (trail, ways)), False)
        found = open_trail(diagram, ("a",), ("e",), ("d",))
        self.assertEqual(found, (("a", ">", "b", ">", "d", "<", "c", "<", "e"), {"d": ("d",)}))

    def test_inner_things_of_x_and_y(self):
        chain = Diagram(("a", "b", "c"), (("a", "b"), ("b", "c")))
        self.assertIs(is_open_trail(chain, ("a", "b"), ("c",), (), (("a", ">", "b", ">", "c"), {})), False)
        self.assertIs(is_open_trail(chain, ("a", "b"), ("c",), (), (("b", ">", "c"), {})), True)
        self.assertIs(is_open_trail(chain, ("a",), ("b", "c"), (), (("a", ">", "b", ">", "c"), {})), False)


class ErrorsTest(unittest.TestCase):
    MEETING = (
        (("a",), ("a",), ()), (("a",), ("b",), ("a",)), (("a",), ("b",), ("b",)), (("a", "b"), ("b", "c"), ()), ((), ("a",), ()),
        (("a",), (), ()), (("a",), ("b",), ("b", "c")), ((), (), ()))

    def test_errors(self):
        lots = {0: (InvalidDiagram, NO_DIAGRAMS), 1: (InvalidLot, NO_LOTS + ((),)), 2: (InvalidLot, NO_LOTS + ((),)),
                3: (InvalidLot, NO_LOTS)}
        for call in (is_barred, bar_cut, open_trail):
            check_errors(self, call, (FORK, ("a",), ("c",), ()), lots)
            for x, y, z in self.MEETING:
                with self.assertRaises(InvalidLot):
                    call(FORK, x, y, z)
        for call in (is_bar_cut, is_open_trail):
            for value in (None, 1, ("a",)):
                check_errors(self, call, (FORK, ("a",), ("c",), (), value), lots)
                for x, y, z in self.MEETING:
                    with self.assertRaises(InvalidLot):
                        call(FORK, x, y, z, value)

    def test_other_kinds(self):
        for diagram in (BACK, DIAMOND, FRONT):
            for value in (even_world(diagram), diagram):
                x, y = diagram.things[:1], diagram.things[1:2]
                self.assertIs(is_bar_cut(diagram, x, y, (), value), False)
                self.assertIs(is_open_trail(diagram, x, y, (), (value, value)), False)


if __name__ == "__main__":
    unittest.main()
