"""Conventions that hold for all modules: where names stand, their parameters, examples, and arguments that stay."""
import copy
import importlib
import inspect
import pathlib
import re
import unittest

from seenanddone.bars import barred, felt, separators
from seenanddone.web import hiding, trails
from seenanddone.web.diagrams import Diagram
from seenanddone.world.tables import Table
from seenanddone.world.worlds import World, even_world
from tests import helper
from tests.helper import DIAMOND, FORK, FRONT, ODDER, some_world

INTERFACE = {
    "base.numbers": """is_fraction(value) is_name(value) is_lot(value) are_shares(value) fraction(top,bottom=1) plus(one,other)
        minus(one,other) times(one,other) over(one,other) is_below(one,other) total(fractions) power(base,count) union(one,other)
        common(one,other) without(one,other) lots_of(lot,most=None) fraction_text(value) read_fraction(text)""",
    "web.diagrams": "Diagram(things,arrows=(),bows=())",
    "web.trails": "is_trail(diagram,value) meeting(diagram,trail) is_open(diagram,trail,z) is_way(diagram,value)",
    "world.tables": "Table(sizes,shares)",
    "world.worlds": "World(diagram,sizes,hidden,tables) even_world(diagram,size=2)",
    "bars.barred": """marriages(diagram,lot) is_barred(diagram,x,y,z) bar_cut(diagram,x,y,z) is_bar_cut(diagram,x,y,z,value)
        open_trail(diagram,x,y,z) is_open_trail(diagram,x,y,z,value)""",
    "bars.felt": """sum_world(diagram,arrows,bows,*,uneven=None) joints_of(diagram,trail,ways) felt_world(diagram,x,y,z)
        is_felt(diagram,x,y,z,value)""",
    "bars.separators": """least_separators(diagram,a,b) is_least_separator(diagram,a,b,value) nearest(diagram,a,b)
        lightest(diagram,x,y,prices,*,must=()) is_lightest(diagram,x,y,prices,value,*,must=())
        free_road(diagram,x,y,prices,*,must=()) is_free_road(diagram,x,y,prices,value,*,must=())""",
    "web.hiding": """projected(diagram,seen) carrier(diagram,seen,joint) is_carrier(diagram,seen,joint,value)
        unfolded(diagram,names) unfolded_world(world,names)""",
}
METHODS = {
    Diagram: """parents(thing) children(thing) bowed(thing) district(thing) ahead(lot) behind(lot) with_ahead(lot) with_behind(lot)
        cut(lot) bare(lot) part(lot)""",
    Table: "share(event) share_given(event,seen) summed(lot) is_free(x,y,z) rows(lot=None)",
    World: "",
}
PROPERTIES = {
    Diagram: "things arrows bows ties order districts",
    Table: "things sizes shares full",
    World: "diagram sizes hidden tables seen full",
}
SPECIAL = {
    Diagram: "__contains__ __len__ __iter__ __eq__ __str__", Table: "__len__ __eq__ __str__", World: "__len__ __eq__ __str__"}


def told(parameters):
    return re.sub(r"\s", "", str(parameters))


class InterfaceTest(unittest.TestCase):
    def test_functions_and_classes(self):
        for name, entries in INTERFACE.items():
            module = importlib.import_module(f"seenanddone.{name}")
            for entry in re.sub(r",\s+", ",", entries).split():
                word, _, parameters = entry.partition("(")
                value = getattr(module, word)
                self.assertEqual(value.__module__, module.__name__)
                self.assertEqual(told(inspect.signature(value)), "(" + parameters)

    def test_methods_stand_in_their_class(self):
        for kind, entries in METHODS.items():
            for entry in entries.split():
                word, _, parameters = entry.partition("(")
                self.assertEqual(told(inspect.signature(vars(kind)[word])), "(self," + parameters)
            for word in PROPERTIES[kind].split():
                self.assertIsInstance(vars(kind)[word], property)
            for word in SPECIAL[kind].split():
                self.assertIn(word, vars(kind))

    def test_properties_cannot_be_set(self):
        world = even_world(FRONT)
        for kind, value in ((Diagram, FRONT), (World, world), (Table, world.seen)):
            for word in PROPERTIES[kind].split():
                with self.assertRaises(AttributeError):
                    setattr(value, word, None)

    def test_generators(self):
        self.assertTrue(inspect.isgeneratorfunction(Table.rows))
        self.assertTrue(inspect.isgeneratorfunction(importlib.import_module("seenanddone.base.numbers").lots_of))


class JudgeTest(unittest.TestCase):
    """A judge accepts every value, and returns True or False."""

    def judges(self):
        numbers = importlib.import_module("seenanddone.base.numbers")
        for call in (numbers.is_fraction, numbers.is_name, numbers.is_lot, numbers.are_shares):
            yield call
        x, y = ("a",), ("d",)
        yield lambda value: trails.is_trail(DIAMOND, value)
        yield lambda value: trails.is_way(DIAMOND, value)
        yield lambda value: barred.is_bar_cut(DIAMOND, x, y, ("b",), value)
        yield lambda value: barred.is_open_trail(DIAMOND, x, y, ("b",), value)
        yield lambda value: felt.is_felt(DIAMOND, x, y, ("b",), value)
        yield lambda value: separators.is_least_separator(DIAMOND, "a", "d", value)
        yield lambda value: separators.is_lightest(DIAMOND, x, y, {"b": 1}, value, must=("c",))
        yield lambda value: separators.is_free_road(DIAMOND, x, y, {"b": 1}, value)
        yield lambda value: hiding.is_carrier(DIAMOND, x + y, ("a", ">", "d"), value)

    def test_every_value(self):
        pairs = [(one, other) for one in ODDER for other in ODDER[::5]]
        rows = [("a", ">", "b"), ("a", one := None, "d"), ("a", ["b"], "d"), ((), ()), (("a",), {}), ({}, {}), (one, {"a": ("a",)}),
                (("a", ">", "b", ">", "d"), {"d": FORK}), (("b", "c"), ((1, ("a", "b", "d")),)), (("a", "c", "d"),), {"a": {"b": FORK}}]
        for judge in self.judges():
            for value in list(ODDER) + pairs + rows + [list(pair) for pair in pairs[::7]]:
                self.assertIn(judge(value), (True, False))
                self.assertIsInstance(judge(value), bool)


class ArgumentsStayTest(unittest.TestCase):
    def test_dicts_stay(self):
        prices = {"c": 3, "b": 2}
        for call in (separators.lightest, separators.free_road):
            call(DIAMOND, ("a",), ("d",), prices)
        value = separators.lightest(DIAMOND, ("a",), ("d",), prices)
        self.assertIs(separators.is_lightest(DIAMOND, ("a",), ("d",), prices, value), True)
        self.assertEqual(list(prices.items()), [("c", 3), ("b", 2)])
        trail = barred.open_trail(DIAMOND, ("b",), ("c",), ("d",))
        kept = copy.deepcopy(trail)
        trail[1].clear()
        self.assertEqual(barred.open_trail(DIAMOND, ("b",), ("c",), ("d",)), kept)
        felt.joints_of(DIAMOND, *kept)
        self.assertEqual(kept, barred.open_trail(DIAMOND, ("b",), ("c",), ("d",)))

    def test_equal_calls_return_equal_results(self):
        world = some_world(FRONT, 1)
        self.assertEqual(world.seen.summed(("x", "y")), some_world(FRONT, 1).seen.summed(("x", "y")))
        for _ in range(2):
            self.assertEqual(hiding.projected(FRONT, ("x", "y")), helper.BOW)


class DocumentTest(unittest.TestCase):
    """The examples that stand in the document."""

    def test_examples(self):
        path = pathlib.Path(__file__).resolve().parent.parent.parent / "shared" / "DOC.md"
        if not path.is_file():
            self.skipTest("the document is not beside the project")
        text = path.read_text()
        names = {name: getattr(helper, name) for name in ("FORK", "MEET", "BOW", "FRONT", "BACK")}
        for name in INTERFACE:
            names.update(vars(importlib.import_module(f"seenanddone.{name}")))
        stages = re.split(r"^## ", text, flags=re.M)
        ran = 0
        for stage in stages:
            if not re.match(r"Stage [1-6]:", stage):
                continue
            for block in re.findall(r"^```\n(>>> .*?)^```", stage, flags=re.M | re.S):
                lines = block.splitlines()
                for at, line in enumerate(lines):
                    if line.startswith(">>> ") and (at + 1 == len(lines) or lines[at + 1].startswith(">>> ")):
                        exec(line[4:], names)
                    elif line.startswith(">>> "):
                        self.assertEqual(repr(eval(line[4:], names)), lines[at + 1])
                        ran += 1
        self.assertEqual(ran, 5)


if __name__ == "__main__":
    unittest.main()
