"""Stage 20: policies, and the worth of a look."""
import itertools
import random
import unittest
from fractions import Fraction

from seenanddone.errors import InvalidDiagram, InvalidLot, InvalidOperation, InvalidWorld, Refused, UnknownName
from seenanddone.look.looks import (
    best_policy, brought, does_pay, is_best_policy, is_look_bar, is_look_trail, is_paying, look_bar, look_trail,
    paying_world, worth_of)
from seenanddone.web.diagrams import Diagram
from seenanddone.world.worlds import World, even_world
from tests.helper import (
    NO_DIAGRAMS, NO_LOTS, ODDER, check_errors, check_judge, lots_within, plain_ahead, plain_barred, plain_done, rows_of,
    small_diagrams, some_diagrams, some_world)
from tests.test_barred import plain_open_trails, plain_ways

TIP = Diagram(("d", "g", "w"), (("d", "g"), ("w", "g")))
LATE = Diagram(("d", "g", "w"), (("w", "g"),))
NO_WORLDS = tuple(value for value in ODDER if not isinstance(value, World))


def cases():
    yield from list(small_diagrams())[::2]
    yield from some_diagrams(60, 4, 201, 0.5, 0.3)
    yield from some_diagrams(12, 5, 202, 0.5, 0.25)


def behind(diagram, thing):
    return {other for other in diagram.things if thing in plain_ahead(diagram, other)}


def lets(diagram, deed, gain):
    return [t for t in diagram.things if t not in (deed, gain) and t not in behind(diagram, deed)]


def pair_of(value):
    return (value.numerator, value.denominator)


def plain_brought(world, deed, gain, looks, policy):
    things = world.diagram.things
    tables = [plain_done(world, {deed: value}) for value in range(world.sizes[deed])]
    found = Fraction(0)
    for value, table in enumerate(tables):
        for row, share in table.items():
            if policy[tuple(row[things.index(t)] for t in looks)] == value:
                found += row[things.index(gain)] * share
    return found


def all_policies(world, deed, looks):
    rows = rows_of([world.sizes[t] for t in looks])
    for values in itertools.product(range(world.sizes[deed]), repeat=len(rows)):
        yield dict(zip(rows, values))


def plain_free(diagram, deed):
    return Diagram(diagram.things, diagram.arrows, tuple(bow for bow in diagram.bows if deed not in bow))


def plain_known(diagram, deed):
    return tuple(sorted([deed] + [a for a, b in diagram.arrows if b == deed]))


def further(diagram):
    """Each deed, gain and look that can be asked of."""
    for deed, gain, look in itertools.permutations(diagram.things, 3):
        if look not in behind(diagram, deed) and (look, deed) not in diagram.arrows:
            yield deed, gain, look


class PolicyTest(unittest.TestCase):
    def test_against_sums_and_all_policies(self):
        for seed, diagram in enumerate(list(cases())[::2]):
            world = some_world(diagram, seed, (2, 3) if len(diagram) < 4 else (2,), (1, 2))
            draw = random.Random(seed)
            for deed, gain in list(itertools.permutations(diagram.things, 2))[:6]:
                may = lets(diagram, deed, gain)
                for looks in lots_within(may)[:4]:
                    best = best_policy(world, deed, gain, looks)
                    self.assertEqual(list(best), rows_of([world.sizes[t] for t in looks]))
                    most = plain_brought(world, deed, gain, looks, best)
                    self.assertEqual(brought(world, deed, gain, looks, best), pair_of(most))
                    policies = list(itertools.islice(all_policies(world, deed, looks), 90))
                    for policy in [draw.choice(policies) for _ in range(6)] + [best]:
                        brings = plain_brought(world, deed, gain, looks, policy)
                        self.assertEqual(brought(world, deed, gain, looks, policy), pair_of(brings))
                        self.assertLessEqual(brings, most)
                        self.assertIs(is_best_policy(world, deed, gain, looks, policy), brings == most)
                    self.check_worth(world, deed, gain, looks, most, [t for t in may if t not in looks])

    def check_worth(self, world, deed, gain, looks, most, rest):
        for look in rest[:2]:
            more = tuple(sorted(looks + (look,)))
            worth = plain_brought(world, deed, gain, more, best_policy(world, deed, gain, more)) - most
            self.assertEqual(worth_of(world, deed, gain, looks, look), pair_of(worth))
            self.assertGreaterEqual(worth, 0)

    def test_values_of_the_gain_count(self):
        diagram = Diagram(("d", "g"), (("d", "g"),))
        table = {(0,): ((1, 2), (0, 1), (1, 2)), (1,): ((0, 1), (1, 1), (0, 1)), (2,): ((1, 3), (0, 1), (2, 3))}
        world = World(diagram, {"d": 3, "g": 3}, {}, {"d": {(): ((1, 1), (0, 1), (0, 1))}, "g": table})
        self.assertEqual([brought(world, "d", "g", (), {(): value}) for value in range(3)], [(1, 1), (1, 1), (4, 3)])
        self.assertEqual(best_policy(world, "d", "g", ()), {(): 2})
        check_judge(self, lambda value: is_best_policy(world, "d", "g", (), value), [{(): 2}], [
            {(): 0}, {(): 3}, {(): -1}, {}, {(0,): 2}, {(): True}, [((), 2)], {(): "2"}, {(): None}, {(): 2, (0,): 2}])
        # All policies are best ones where nothing is behind the deed.
        back = even_world(LATE)
        self.assertTrue(all(is_best_policy(back, "d", "g", ("w",), policy) for policy in all_policies(back, "d", ("w",))))
        self.assertIs(is_best_policy(back, "d", "g", ("w",), {(0,): True, (1,): 0}), False)
        self.assertIs(is_best_policy(back, "d", "g", ("w",), {(False,): 0, (1,): 0}), False)

    def test_the_table_and_the_bows_of_the_deed_do_not_count(self):
        diagram = Diagram(("d", "g", "w"), (("d", "g"), ("w", "g")), (("d", "g"), ("d", "w")))
        world = some_world(diagram, 1, (2,), (2,))
        tables = world.tables
        tables["d"] = {row: ((1, 1), (0, 1)) for row in tables["d"]}
        other = World(diagram, world.sizes, world.hidden, tables)
        self.assertEqual(worth_of(world, "d", "g", (), "w"), worth_of(other, "d", "g", (), "w"))
        self.assertEqual(best_policy(world, "d", "g", ("w",)), best_policy(other, "d", "g", ("w",)))

    def test_two_looks_that_are_worth_nothing_alone(self):
        diagram = Diagram(("d", "g", "v", "w"), (("d", "g"), ("v", "g"), ("w", "g")))
        sums = {row: ((1, 1), (0, 1)) if sum(row) % 2 else ((0, 1), (1, 1)) for row in rows_of([2, 2, 2])}
        fair = {(): ((1, 2), (1, 2))}
        world = World(diagram, dict.fromkeys("dgvw", 2), {}, {"d": fair, "v": fair, "w": fair, "g": sums})
        self.assertEqual([worth_of(world, "d", "g", (), look) for look in "vw"], [(0, 1), (0, 1)])
        self.assertEqual(worth_of(world, "d", "g", ("v",), "w"), (1, 2))

    def test_errors(self):
        world = even_world(TIP)
        policy = {(0,): 0, (1,): 1}
        things = (None, "q", "", [], {}, 1, ("d",))
        wrong = {0: (InvalidWorld, NO_WORLDS), 1: (UnknownName, things), 2: (UnknownName, things + ("d",)), 3: (InvalidLot, NO_LOTS + (("d",), ("g",), ("g", "w")))}
        bad = [{}, {(0,): 0}, {(0,): 0, (1,): 2}, {(0,): 0, (1,): True}, {(0,): 0, (2,): 0}, [((0,), 0)], {(0,): 0, (1,): 0, (2,): 0}, {0: 0, 1: 0}, {(True,): 0, (0,): 0}]
        check_errors(self, brought, (world, "d", "g", ("w",), policy), {**wrong, 4: (InvalidOperation, tuple(bad) + tuple(v for v in ODDER))})
        check_errors(self, best_policy, (world, "d", "g", ("w",)), wrong)
        check_errors(self, is_best_policy, (world, "d", "g", ("w",), None), wrong)
        check_errors(self, worth_of, (world, "d", "g", (), "w"), {**wrong, 4: (UnknownName, things + ("d", "g"))})
        with self.assertRaises(UnknownName):
            worth_of(world, "d", "g", ("w",), "w")
        line = even_world(Diagram(("a", "b", "c", "d"), (("a", "b"), ("b", "c"), ("c", "d"))))
        for call in (lambda: best_policy(line, "b", "d", ("c",)), lambda: best_policy(line, "b", "d", ("a", "c"))):
            with self.assertRaises(InvalidLot):
                call()
        with self.assertRaises(UnknownName) as caught:
            worth_of(line, "b", "d", ("a",), "c")
        self.assertEqual(caught.exception.asked, "c")
        self.assertEqual(worth_of(line, "d", "b", (), "a"), (0, 1))


class PaysTest(unittest.TestCase):
    def test_one_paper_each(self):
        told = [0, 0]
        for seed, diagram in enumerate(cases()):
            for deed, gain, look in list(further(diagram))[:14]:
                known = plain_known(diagram, deed)
                free = plain_free(diagram, deed)
                pays = gain in behind(diagram, deed) and not plain_barred(free, (look,), (gain,), known)
                told[pays] += 1
                args = (diagram, deed, gain, look)
                self.assertIs(does_pay(*args), pays)
                bar, trail, world = look_bar(*args), look_trail(*args), paying_world(*args)
                self.assertEqual([bar is None, trail is None, world is None], [pays, not pays, not pays])
                self.assertEqual([is_look_bar(*args, bar), is_look_trail(*args, trail), is_paying(*args, world)], [not pays, pays, pays])
                lots = lots_within(diagram.things)
                closed = [lot for lot in lots if deed in lot and gain not in lot and all(b in lot for a, b in diagram.arrows if a in lot)]
                for lot in lots:
                    self.assertIs(is_look_bar(*args, ("behind", lot)), lot in closed)
                    self.assertTrue(not is_look_bar(*args, ("cut", lot)) or not pays)
                if pays:
                    self.check_world(args, world)
                    self.check_trails(args, free, known)
                else:
                    self.check_no_world(args, seed)
        self.assertGreater(min(told), 60)

    def check_world(self, args, world):
        """A paying world by its own worth: one half, and all things have two values."""
        diagram, deed, gain, look = args
        looks = tuple(t for t in plain_known(diagram, deed) if t != deed)
        self.assertEqual(set(world.sizes.values()), {2})
        self.assertEqual(world.diagram, diagram)
        values = [plain_brought(world, deed, gain, lot, best_policy(world, deed, gain, lot)) for lot in (looks, tuple(sorted(looks + (look,))))]
        self.assertEqual(values[1] - values[0], Fraction(1, 2))

    def check_trails(self, args, free, known):
        diagram, deed, gain, look = args
        ways = [way for way in plain_ways(diagram, deed) if way[-1] == gain]
        for trail in list(plain_open_trails(free, (look,), (gain,), known))[:6]:
            for way in ways[:3]:
                self.assertIs(is_look_trail(*args, (trail, way)), True)

    def check_no_world(self, args, seed):
        diagram, deed, gain, look = args
        world = some_world(diagram, seed, (2,), (1, 2))
        self.assertIs(is_paying(*args, world), False)
        looks = tuple(t for t in plain_known(diagram, deed) if t != deed)
        if gain not in looks:
            self.assertEqual(worth_of(world, deed, gain, looks, look), (0, 1))

    def test_examples(self):
        self.assertEqual([does_pay(TIP, "d", "g", "w"), look_bar(LATE, "d", "g", "w")], [True, ("behind", ("d",))])
        self.assertEqual([look_bar(TIP, "d", "g", "w"), look_trail(TIP, "d", "g", "w")], [None, ((("w", ">", "g"), {}), ("d", "g"))])

    def test_the_gain_as_a_parent_of_the_deed(self):
        diagram = Diagram(("d", "e", "g", "w"), (("d", "e"), ("g", "d"), ("w", "g")), (("e", "w"),))
        args = (diagram, "d", "g", "w")
        self.assertEqual([does_pay(*args), look_trail(*args), paying_world(*args)], [False, None, None])
        self.assertEqual(look_bar(*args), ("behind", ("d", "e")))
        self.assertIs(is_look_bar(*args, ("cut", ("w",))), False)
        self.assertIs(is_look_trail(*args, ((("w", ">", "g"), {}), ("d", "g"))), False)
        self.assertIs(is_paying(*args, even_world(diagram)), False)

    def test_the_way_and_the_trail_can_share_things(self):
        diagram = Diagram(("d", "g", "h", "k", "w"), (("d", "h"), ("h", "g"), ("h", "k"), ("k", "g"), ("w", "h")))
        trail = (("w", ">", "h", ">", "k", ">", "g"), {})
        self.assertIs(is_look_trail(diagram, "d", "g", "w", (trail, ("d", "h", "g"))), True)
        world = paying_world(diagram, "d", "g", "w")
        self.assertEqual(worth_of(world, "d", "g", (), "w"), (1, 2))

    def test_a_look_that_meets_at_a_parent(self):
        diagram = Diagram(("d", "g", "p", "s", "w"), (("d", "g"), ("p", "d"), ("s", "g"), ("s", "p"), ("w", "p")))
        trail, way = look_trail(diagram, "d", "g", "w")
        self.assertEqual((trail, way), ((("w", ">", "p", "<", "s", ">", "g"), {"p": ("p",)}), ("d", "g")))
        world = paying_world(diagram, "d", "g", "w")
        self.assertEqual(worth_of(world, "d", "g", ("p",), "w"), (1, 2))
        self.assertEqual(worth_of(world, "d", "g", (), "w"), (0, 1))

    def test_judges(self):
        args = (TIP, "d", "g", "w")
        trail = (("w", ">", "g"), {})
        check_judge(self, lambda value: is_look_trail(*args, value), [(trail, ("d", "g"))], [
            (trail, ("w", "g")), (trail, ("d",)), (trail, ("g",)), (trail, ["d", "g"]), (trail,), [trail, ("d", "g")], (("w", ">", "g"), ("d", "g")),
            ((("d", ">", "g"), {}), ("d", "g")), (trail, ("d", "g"), ()), ((trail[0], {"g": ("g",)}), ("d", "g")), (None, ("d", "g")), (trail, None), (trail, ())])
        check_judge(self, lambda value: is_look_bar(LATE, "d", "g", "w", value), [("behind", ("d",)), ("behind", ("d",))], [
            ("behind", ("d", "w")), ("behind", ()), ("behind", ("d", "g")), ("behind", ("w",)), ("cut", ("w",)), ("Behind", ("d",)), ["behind", ("d",)],
            ("behind", ["d"]), ("behind",), ("behind", ("d",), ()), ("cut", ()), ("cut", None)])
        barred = Diagram(("d", "g", "p", "w"), (("d", "g"), ("p", "d"), ("p", "g"), ("w", "p")))
        check_judge(self, lambda value: is_look_bar(barred, "d", "g", "w", value), [("cut", ("w",))], [
            ("cut", ()), ("cut", ("g",)), ("cut", ("p", "w")), ("cut", ("w", "w")), ("behind", ("d",)), ("behind", ("w",)), ("cut", ["w"]), ["cut", ("w",)],
            ("Cut", ("w",)), ("open", ("w",)), (None, ("w",)), ("cut", ("w",), ())])
        world = paying_world(TIP, "d", "g", "w")
        check_judge(self, lambda value: is_paying(*args, value), [world], [even_world(TIP), even_world(LATE), (world,)])

    def test_errors(self):
        things = (None, "q", "", [], {}, 1, ("d",))
        wrong = {0: (InvalidDiagram, NO_DIAGRAMS), 1: (UnknownName, things), 2: (UnknownName, things + ("d",)), 3: (UnknownName, things + ("d", "g"))}
        line = Diagram(("a", "b", "c", "d"), (("a", "b"), ("b", "c"), ("c", "d")))
        for call, more in ((does_pay, ()), (look_bar, ()), (look_trail, ()), (paying_world, ()), (is_look_bar, (None,)), (is_look_trail, (None,)), (is_paying, (None,))):
            check_errors(self, call, (TIP, "d", "g", "w") + more, wrong)
            for look, word in (("c", "behind"), ("a", "seen")):
                with self.assertRaises(Refused) as caught:
                    call(line, "b", "d", look, *more)
                self.assertEqual(caught.exception.reason, (word,))


if __name__ == "__main__":
    unittest.main()
