"""Stage 13: steps that tell an effect."""
import math
import random
import unittest
from fractions import Fraction

from seenanddone.deed.deeds import done
from seenanddone.deed.steps import MAX_STEPS, is_steps, leading, lots_of_steps, pieces, step_value, steps_of, told_by_steps
from seenanddone.errors import InvalidDeed, InvalidDiagram, InvalidLot, InvalidNumber, InvalidOperation, InvalidTable, Refused
from seenanddone.web.diagrams import Diagram
from seenanddone.world.tables import Table
from tests.helper import (
    BACK, BOW, DIAMOND, FRONT, NO_DIAGRAMS, NO_LOTS, ODDER, all_deeds, all_effects, as_fractions, check_errors, check_judge,
    plain_done, rows_of, small_diagrams, some_diagrams, some_effects, some_table, some_world)

STEPS = (("seen",), ("piece", 0, ("z",)), ("piece", 0, ("x", "y")), ("less", 2, ("y",)))
NO_TABLES = tuple(value for value in ODDER if not isinstance(value, Table))


def cases():
    for diagram in small_diagrams():
        yield diagram, some_effects(diagram.things, 6, len(diagram.arrows) + 7 * len(diagram.bows))
    for seed, diagram in enumerate(some_diagrams(60, 4, 51, 0.5, 0.3)):
        if len(diagram.bows) < 4:
            yield diagram, some_effects(diagram.things, 8, seed)


def plain_leading(diagram, x, y):
    found = set(y)
    for _ in diagram.things:
        found |= {a for a, b in diagram.arrows if b in found and a not in x}
    return tuple(sorted(found))


def plain_districts(diagram, lot):
    left, found = list(lot), []
    while left:
        joined = {left[0]}
        for _ in lot:
            joined |= {t for pair in diagram.bows if set(pair) <= set(lot) and set(pair) & joined for t in pair}
        found.append(tuple(sorted(joined)))
        left = [t for t in left if t not in joined]
    return tuple(found)


def plain_products(world, lot):
    """The product of a lot at each row of all things: the share of its values behind the deed that sets all others."""
    diagram = world.diagram
    rest = tuple(t for t in diagram.things if t not in lot)
    found = {}
    for deed in all_deeds(world.sizes, rest):
        for row, share in plain_done(world, deed).items():
            if all(row[diagram.things.index(t)] == v for t, v in deed.items()):
                found[row] = share
    return found


def plain_values(diagram, shares, sizes, steps, lots):
    """The dicts from all rows to the values of all steps, as [13.3] has them."""
    things = diagram.things
    found = []

    def total(values, row, lot):
        whole = Fraction(0)
        for part in rows_of([sizes[t] for t in lot]):
            worth = dict(zip(things, row), **dict(zip(lot, part)))
            whole += values[tuple(worth[t] for t in things)]
        return whole

    for step in steps:
        if step == ("seen",):
            found.append(shares)
            continue
        word, index, lot = step
        values, before = found[index], lots[index]
        if word == "less":
            found.append({row: total(values, row, [t for t in before if t not in lot]) for row in shares})
            continue
        order = diagram.part(before).order
        made = {}
        for row in shares:
            whole = Fraction(1)
            for thing in lot:
                later = order[order.index(thing) + 1:]
                whole *= total(values, row, later) / total(values, row, (thing,) + later)
            made[row] = whole
        found.append(made)
    return found


class LeadingTest(unittest.TestCase):
    def test_leading_and_pieces(self):
        for diagram in list(small_diagrams()) + list(some_diagrams(40, 5, 3)):
            for x, y in some_effects(diagram.things, 15, 1):
                lot = plain_leading(diagram, x, y)
                self.assertEqual(leading(diagram, x, y), lot)
                self.assertEqual(pieces(diagram, x, y), plain_districts(diagram, lot))
        self.assertEqual(leading(FRONT, ("x",), ("y",)), ("y", "z"))
        self.assertEqual(pieces(FRONT, ("x",), ("y",)), (("y",), ("z",)))
        self.assertEqual(pieces(FRONT, (), ("y",)), (("x", "y"), ("z",)))

    def test_errors(self):
        wrong = {0: (InvalidDiagram, NO_DIAGRAMS), 1: (InvalidLot, NO_LOTS), 2: (InvalidLot, NO_LOTS + ((), ("a",), ("a", "b")))}
        for call in (leading, pieces, steps_of):
            check_errors(self, call, (DIAMOND, ("a",), ("d",)), wrong)
        check_errors(self, is_steps, (DIAMOND, ("a",), ("d",), None), wrong)
        check_errors(self, lots_of_steps, (FRONT, STEPS), {
            0: (InvalidDiagram, NO_DIAGRAMS), 1: (InvalidOperation, ODDER + (STEPS[1:], list(STEPS)))})


class StepsTest(unittest.TestCase):
    def test_steps_for_each_effect_that_is_told(self):
        told = {True: 0, False: 0}
        for seed, (diagram, effects) in enumerate(cases()):
            world = some_world(diagram, seed, (2,), (2,) if len(diagram.bows) < 4 else (1, 2))
            products = {}
            for x, y in effects:
                steps = steps_of(diagram, x, y)
                told[steps is not None] += 1
                self.assertIs(is_steps(diagram, x, y, steps), steps is not None)
                if steps is None:
                    continue
                lots = lots_of_steps(diagram, steps)
                for piece in plain_districts(diagram, plain_leading(diagram, x, y)):
                    self.assertIn(piece, lots)
                row = tuple(seed // 2 ** k % 2 for k in range(len(diagram)))
                for index, lot in enumerate(lots):
                    if lot not in products:
                        products[lot] = plain_products(world, lot)
                    self.assertEqual(Fraction(*step_value(diagram, world.seen, steps, index, row)), products[lot][row])
                for deed in all_deeds(world.sizes, x)[:2]:
                    shares = told_by_steps(diagram, world.seen, x, y, steps, deed)
                    self.assertEqual(shares, done(world, deed).summed(y).shares)
                    self.assertEqual(list(shares), rows_of([2] * len(y)))
        self.assertTrue(all(told.values()))

    def test_against_the_sums_of_the_steps(self):
        """For any full tables, also such as no world makes."""
        for seed, (diagram, effects) in enumerate(list(cases())[::9]):
            draw = random.Random(seed)
            sizes = {thing: draw.choice((2, 3)) if len(diagram) < 4 else 2 for thing in diagram.things}
            table = some_table(seed, sizes)
            for x, y in effects[:4]:
                steps = steps_of(diagram, x, y)
                if steps is None:
                    continue
                # Some further steps that nothing needs, ahead and behind.
                part = diagram.districts[-1]
                steps = steps + (("piece", 0, part), ("less", len(steps), part), ("seen",), ("less", 0, diagram.with_ahead(y)))
                self.assertIs(is_steps(diagram, x, y, steps), True)
                lots = lots_of_steps(diagram, steps)
                values = plain_values(diagram, as_fractions(table), sizes, steps, lots)
                for index in range(len(steps)):
                    for row in draw.sample(rows_of([sizes[t] for t in table.things]), 3):
                        self.assertEqual(Fraction(*step_value(diagram, table, steps, index, row)), values[index][row])
                for deed in draw.sample(all_deeds(sizes, x), 2 if x else 1):
                    self.check_told(diagram, table, sizes, x, y, steps, lots, values, deed)

    def check_told(self, diagram, table, sizes, x, y, steps, lots, values, deed):
        lead = plain_leading(diagram, x, y)
        firsts = [lots.index(piece) for piece in plain_districts(diagram, lead)]
        shares = {}
        for part in rows_of([sizes[t] for t in lead]):
            worth = {**dict.fromkeys(diagram.things, 0), **deed, **dict(zip(lead, part))}
            row = tuple(worth[t] for t in diagram.things)
            at = tuple(worth[t] for t in y)
            shares[at] = shares.get(at, 0) + math.prod(values[index][row] for index in firsts)
        told = told_by_steps(diagram, table, x, y, steps, deed)
        self.assertEqual({row: Fraction(*share) for row, share in told.items()}, shares)

    def test_other_steps_tell_the_same(self):
        world = some_world(FRONT, 4, (2, 3), (3,))
        x, y = ("x",), ("y",)
        others = (STEPS, (("seen",), ("less", 0, ("x", "y", "z"))) + tuple(
            (word, index + 1, lot) for word, index, lot in STEPS[1:]), STEPS + STEPS[:1] + (("piece", 4, ("z",)),),
            (("seen",), ("piece", 0, ("x", "y")), ("less", 1, ("y",)), ("piece", 0, ("z",))),
            (("seen",), ("less", 0, ("x", "z")), ("piece", 1, ("z",)), ("piece", 0, ("x", "y")), ("less", 3, ("y",))),
            (("seen",), ("less", 0, ("x", "z")), ("less", 1, ("x",)), ("seen",), ("piece", 3, ("x", "y")), ("less", 4, ("y",)),
             ("piece", 1, ("z",)), ("piece", 6, ("z",))))
        for steps in others:
            self.assertIs(is_steps(FRONT, x, y, steps), True)
            for deed in all_deeds(world.sizes, x):
                self.assertEqual(told_by_steps(FRONT, world.seen, x, y, steps, deed), done(world, deed).summed(y).shares)

    def test_tables_that_no_world_makes(self):
        """Where a saying fails, steps of other orders can tell unlike shares."""
        table = some_table(2, dict.fromkeys("abc", 2))
        fork = Diagram(("a", "b", "c"), (("b", "a"), ("b", "c")))
        x, y = ("a",), ("c",)
        one = (("seen",), ("piece", 0, ("b",)), ("piece", 0, ("c",)))
        other = (("seen",), ("less", 0, ("b", "c")), ("piece", 1, ("b",)), ("piece", 1, ("c",)))
        told = [told_by_steps(fork, table, x, y, steps, {"a": 0}) for steps in (one, other)]
        self.assertNotEqual(*told)
        world = some_world(fork, 3)
        self.assertEqual(*[told_by_steps(fork, world.seen, x, y, steps, {"a": 0}) for steps in (one, other)])

    def test_no_deed_at_all(self):
        for seed, diagram in enumerate((FRONT, BOW, BACK, DIAMOND)):
            world = some_world(diagram, seed)
            for _, y in all_effects(diagram.things):
                steps = steps_of(diagram, (), y)
                self.assertIsNotNone(steps)
                self.assertEqual(told_by_steps(diagram, world.seen, (), y, steps, {}), world.seen.summed(y).shares)

    def test_sixty_steps(self):
        world = some_world(FRONT, 1, (2,), (2,))
        for more in (("less", 0, ("x", "y", "z")), ("seen",), ("piece", 0, ("z",))):
            sixty = STEPS + (more,) * 56
            self.assertIs(is_steps(FRONT, ("x",), ("y",), sixty), True)
            self.assertEqual(len(lots_of_steps(FRONT, sixty)), MAX_STEPS)
            self.assertIs(is_steps(FRONT, ("x",), ("y",), sixty + (more,)), False)
            with self.assertRaises(InvalidOperation):
                lots_of_steps(FRONT, sixty + (more,))
        chain = (("seen",),) + tuple(("less", k, ("x", "y", "z")) for k in range(56))
        chain = chain + (("piece", 56, ("z",)), ("piece", 56, ("x", "y")), ("less", 58, ("y",)))
        self.assertEqual(told_by_steps(FRONT, world.seen, ("x",), ("y",), chain, {"x": 1}), done(world, {"x": 1}).summed(("y",)).shares)
        last = (("seen",),) + tuple(("less", k, ("x", "y", "z")) for k in range(59))
        self.assertEqual(step_value(FRONT, world.seen, last, 59, (0, 1, 0)), world.seen.share({"x": 0, "y": 1, "z": 0}))

    def test_spoilt_steps(self):
        x, y = ("x",), ("y",)
        wrong = [
            (), STEPS[1:], STEPS[:3], STEPS[:1], list(STEPS), (list(STEPS[0]),) + STEPS[1:], (("Seen",),) + STEPS[1:], (("seen", 0),) + STEPS[1:],
            STEPS[:1] + (("piece", True, ("z",)),), STEPS[:1] + (("piece", False, ("z",)),) + STEPS[2:], STEPS[:3] + (("less", True, ("y",)),),
            STEPS[:3] + (("less", 3, ("y",)),), STEPS[:3] + (("less", -1, ("y",)),), STEPS[:3] + (("less", 2, ()),), STEPS + (("less", 2, ()),),
            STEPS[:3] + (("less", 2, ["y"]),), STEPS[:3] + (("less", 2, ("y", "z")),), STEPS[:3] + (("less", 2),), STEPS + (("less", 2, ("y",), 0),),
            STEPS[:1] + (("piece", 0, ("y",)),), STEPS + (("piece", 0, ("x",)),), STEPS + (("less", 0, ("z",)),), STEPS + (("less", 0, ("y",)),),
            STEPS + (("Less", 2, ("y",)),), STEPS + (None,), STEPS + (("less", "2", ("y",)),), STEPS + (("less", 2, ("q",)),),
            STEPS + (("less", None, ("y",)),), STEPS + ((),), STEPS + (("piece", 2, ("y",)),), (("less", 0, ("x",)),) + STEPS,
            STEPS + (("less", 2, ("y", "x")),), STEPS + (("less", 10 ** 1000, ("y",)),), STEPS + (("less", 2, FRONT),)]
        check_judge(self, lambda value: is_steps(FRONT, x, y, value), [STEPS, STEPS + STEPS[:1], STEPS + (("less", 2, ("x",)),)], wrong)
        for steps in (STEPS[:3], (("seen",),)):
            self.assertIs(is_steps(FRONT, x, ("y", "z"), steps), False)
            self.assertEqual(len(lots_of_steps(FRONT, steps)), len(steps))
        self.assertIsNone(steps_of(BOW, ("x",), ("y",)))
        self.assertIs(is_steps(BOW, ("x",), ("y",), (("seen",), ("less", 0, ("x",)))), False)

    def test_errors(self):
        table = some_world(FRONT, 1, (2,)).seen
        other = some_table(1, {"x": 2, "y": 2})
        tables = NO_TABLES + (other, some_table(1, {"x": 2, "y": 2, "u": 2}))
        no_steps = ODDER + (STEPS[1:], list(STEPS), STEPS + (("less", 2, ()),))
        no_rows = ODDER + ((0, 0), (0, 0, 2), (0, 0, True), [0, 0, 0], (0, 0, 0, 0), (0, 0, -1))
        no_numbers = tuple(value for value in ODDER if value not in (0, 1)) + (True, False, 4, -1, "0")
        check_errors(self, step_value, (FRONT, table, STEPS, 3, (0, 0, 1)), {
            0: (InvalidDiagram, NO_DIAGRAMS), 1: (InvalidTable, tables), 2: (InvalidOperation, no_steps), 3: (InvalidNumber, no_numbers),
            4: (InvalidOperation, no_rows)})
        no_deeds = ({}, {"x": 2}, {"x": True}, {"y": 0}, {"x": 0, "y": 0}, {"x": "0"}, [("x", 0)]) + tuple(
            value for value in ODDER if value != {})
        check_errors(self, told_by_steps, (FRONT, table, ("x",), ("y",), STEPS, {"x": 0}), {
            0: (InvalidDiagram, NO_DIAGRAMS), 1: (InvalidTable, tables), 2: (InvalidLot, NO_LOTS), 3: (InvalidLot, NO_LOTS + ((), ("x",))),
            4: (InvalidOperation, no_steps + (STEPS[:3],)), 5: (InvalidDeed, no_deeds)})
        bare = Table(dict.fromkeys("xyz", 2), {row: (1, 4) if sum(row) % 2 else (0, 1) for row in rows_of([2, 2, 2])})
        for call, args in ((step_value, (FRONT, bare, STEPS, 0, (0, 0, 0))), (told_by_steps, (FRONT, bare, ("x",), ("y",), STEPS, {"x": 0}))):
            with self.assertRaises(Refused) as caught:
                call(*args)
            self.assertEqual(caught.exception.reason, ("full",))
            with self.assertRaises((InvalidOperation, InvalidDeed)):
                call(*args[:-1], None)


if __name__ == "__main__":
    unittest.main()
