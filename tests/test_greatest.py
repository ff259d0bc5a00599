"""The greatest inputs that the document lets are answered within some seconds (stages 7 to 16)."""
import itertools
import random
import time
import unittest

from seenanddone.adjust.adjusting import adjust_bar, adjusted, is_adjusting
from seenanddone.adjust.erring import erring_world, is_erring, lightest_adjusting, widest_adjusting
from seenanddone.deed.deeds import breaking_world, does_rule_hold, done, done_world, is_breaking
from seenanddone.deed.needs import left_open, must_rule_out, must_see, still_doubtful
from seenanddone.deed.steps import is_steps, step_value, steps_of, told_by_steps
from seenanddone.deed.twins import are_twins, is_told, twins_of, unlike_deed
from seenanddone.same.answers import bar_of_answers, is_bar_of_answers, picture_of_answers
from seenanddone.same.pictures import is_sure_rows, picture_of, sure_rows, two_members
from seenanddone.same.sayings import answers_of, binding_trail, does_meet, parting_saying, turnings
from seenanddone.ties.webs import Web, corner_order, does_split, is_unswapped, join_tree, joined, ring_without_chord, unswapped
from seenanddone.web.diagrams import Diagram
from seenanddone.world.fits import does_fit, fitting_world, least_diagram, misfit
from seenanddone.world.worlds import World, even_world
from tests.helper import lowest, read_counts, rows_of, some_table

SIX = ("a", "b", "c", "d", "e", "f")
PAIRS = tuple(itertools.combinations(SIX, 2))
ROW = tuple(zip(SIX, SIX[1:]))
ALL = Diagram(SIX, PAIRS)
TEN = Diagram(SIX, PAIRS, PAIRS[:10])
FOURS = dict.fromkeys(SIX, 4)
SECONDS = 20


def great_world(diagram, sizes, hidden_sizes, seed=1):
    """A full world with any shares of sixteenths."""
    draw = random.Random(seed)

    def shares(size):
        tops = [draw.randint(1, 4) for _ in range(size - 1)]
        return tuple(lowest(top, 16) for top in tops) + (lowest(16 - sum(tops), 16),)
    hidden = {bow: shares(hidden_sizes[at]) if hidden_sizes[at] > 1 else ((1, 1),) for at, bow in enumerate(diagram.bows)}
    tables = {
        thing: {row: shares(sizes[thing]) for row in rows_of(read_counts(diagram, sizes, hidden, thing))}
        for thing in diagram.things}
    return World(diagram, sizes, hidden, tables)


class GreatestTest(unittest.TestCase):
    def setUp(self):
        self.start = time.perf_counter()

    def tearDown(self):
        self.assertLess(time.perf_counter() - self.start, SECONDS)

    def test_fits(self):
        table = some_table(1, FOURS)
        self.assertEqual([does_fit(table, ALL), does_fit(table, Diagram(SIX))], [True, False])
        self.assertIsNotNone(misfit(table, Diagram(SIX, ROW)))
        self.assertEqual(least_diagram(table, SIX[::-1]).ties, PAIRS)
        world = great_world(ALL, FOURS, ())
        self.assertEqual(fitting_world(world.seen, ALL).seen, world.seen)
        self.assertEqual(least_diagram(even_world(ALL, 4).seen, SIX), Diagram(SIX))

    def test_webs(self):
        table = some_table(2, FOURS)
        for ties in ((), ROW, PAIRS, tuple(pair for pair in PAIRS if pair != ("a", "f"))):
            web = Web(SIX, ties)
            whole = joined(web, tuple(table.summed(clique) for clique in web.cliques))
            self.assertIs(does_split(whole, web), True)
            self.assertIs(is_unswapped(table, web, unswapped(table, web)), len(ties) < 15)
            self.assertIsNotNone(join_tree(web))
        wide = Web(SIX, tuple(pair for pair in PAIRS if pair not in (("a", "b"), ("c", "d"), ("e", "f"))))
        self.assertEqual((len(wide.cliques), corner_order(wide), len(ring_without_chord(wide))), (8, None, 4))

    def test_sayings_and_pictures(self):
        whole = Diagram(SIX, PAIRS, PAIRS)
        self.assertIsNone(parting_saying(whole, TEN))
        self.assertEqual(len(answers_of(TEN)), 240)
        row = Diagram(SIX, (), ROW)
        self.assertEqual(binding_trail(whole, "a", "f")[::2], ("a", "f"))
        self.assertIs(does_meet(row, "a", "c", "b"), True)
        turned = Diagram(SIX, tuple(sorted(pair[::-1] for pair in PAIRS)))
        self.assertEqual(len(turnings(ALL, turned)), 15)
        picture = picture_of(ALL)
        self.assertEqual((picture.ways, len(list(picture.members()))), (720, 720))
        self.assertIsNotNone(two_members(picture, ("a", "f")))
        answers = answers_of(ALL)
        self.assertEqual(picture_of_answers(SIX, answers), picture)
        answers[("a", "f", ("b", "c", "d", "e"))] = True
        self.assertIsNone(bar_of_answers(SIX, answers))
        answers[("a", "f", ())] = True
        self.assertIs(is_bar_of_answers(SIX, answers, bar_of_answers(SIX, answers)), True)
        most = Diagram(SIX, tuple(pair for pair in PAIRS if pair != ("a", "b")))
        for tie in most.ties:
            rows = sure_rows(picture_of(most), tie)
            self.assertIs(is_sure_rows(picture_of(most), tie, rows), rows is not None)

    def test_deeds(self):
        sizes = FOURS
        world = great_world(TEN, sizes, (2,) * 8 + (1,) * 2)
        deed = {"c": 1, "d": 2}
        self.assertEqual(done_world(world, {"a": 0, "b": 3, **deed}).seen, done(world, {"a": 0, "b": 3, **deed}))
        args = (("a",), ("f",), ("c", "d"), ("b",))
        for rule in ("look", "swap", "deed"):
            holds = does_rule_hold(TEN, rule, *args)
            made = breaking_world(TEN, rule, *args)
            self.assertIs(is_breaking(TEN, rule, *args, made), not holds)
        self.assertIs(is_breaking(TEN, "swap", *args, world), True)

    def test_steps(self):
        bowed = Diagram(SIX, PAIRS, (("a", "b"), ("a", "c"), ("b", "d")))
        world = great_world(bowed, FOURS, (4, 4, 4))
        x, y = ("d",), ("f",)
        steps = steps_of(bowed, x, y)
        self.assertEqual(told_by_steps(bowed, world.seen, x, y, steps, {"d": 1}), done(world, {"d": 1}).summed(y).shares)
        table = some_table(3, FOURS)
        told_by_steps(bowed, table, x, y, steps, {"d": 1})
        self.assertEqual(told_by_steps(ALL, table, (), SIX, steps_of(ALL, (), SIX), {}), table.shares)
        one = Diagram(SIX, PAIRS, ROW)
        sixty = (("seen",),) + tuple(("piece" if k % 2 else "less", k, SIX) for k in range(59))
        self.assertIs(is_steps(one, (), SIX, sixty), True)
        self.assertEqual(step_value(one, table, sixty, 59, (3,) * 6), table.share(dict.fromkeys(SIX, 3)))

    def test_twins(self):
        for diagram in (TEN, Diagram(SIX, PAIRS, PAIRS), Diagram(SIX, ROW, ROW), Diagram(SIX, PAIRS, tuple(("a", t) for t in SIX[1:]))):
            for x, y in ((("a",), ("f",)), (("a", "b"), ("e", "f")), (("b",), ("d", "f"))):
                twins = twins_of(diagram, x, y)
                self.assertIs(twins is None, is_told(diagram, x, y))
                if twins is not None:
                    self.assertIs(are_twins(diagram, x, y, twins), True)
                    unlike_deed(diagram, x, y, twins)
        world = great_world(TEN, FOURS, (2,) * 8 + (1,) * 2)
        self.assertIs(are_twins(TEN, ("a",), ("f",), (world, world)), False)

    def test_needs(self):
        whole = Diagram(SIX, PAIRS, PAIRS)
        ties = tuple(("bow",) + pair for pair in PAIRS[:6])
        for by in ("steps", "lot"):
            self.assertEqual(must_see(whole, ("a",), ("f",), by=by), ())
            self.assertEqual(left_open(whole, ("a",), ("f",), by=by), (SIX,))
            self.assertEqual(must_see(whole, (), ("f",), by=by), (("f",),))
            must_rule_out(Diagram(SIX, PAIRS, PAIRS[:6]), ("a",), ("f",), ties, by=by)
            still_doubtful(TEN, ("a",), ("f",), ties, by=by)

    def test_adjusting(self):
        world = great_world(TEN, FOURS, (2,) * 8 + (1,) * 2)
        table = some_table(4, FOURS)
        for x, y, z in ((("a",), ("f",), ("b", "c", "d", "e")), (("e",), ("f",), ("a", "b", "c", "d")), (("a", "b", "c", "d"), ("f",), ())):
            adjusted(table, x, y, z, dict.fromkeys(x, 3))
            self.assertIs(is_erring(TEN, x, y, z, world), True)
            bar = adjust_bar(TEN, x, y, z)
            self.assertIs(is_adjusting(TEN, x, y, z), bar is None)
            self.assertIs(is_erring(TEN, x, y, z, erring_world(TEN, x, y, z)), bar is not None)
        self.assertEqual(widest_adjusting(ALL, ("e",), ("f",)), SIX[:4])
        self.assertEqual(lightest_adjusting(ALL, ("e",), ("f",), dict.fromkeys(SIX[:4], 1000))[0], SIX[:4])


if __name__ == "__main__":
    unittest.main()
