"""Conventions that hold for all modules: where names stand, their parameters, examples, and arguments that stay."""
import copy
import importlib
import inspect
import itertools
import pathlib
import re
import unittest

from seenanddone.adjust import adjusting, erring
from seenanddone.ask import questions
from seenanddone.bars import barred, felt, separators
from seenanddone.deed import deeds, needs, steps, twins
from seenanddone.house import register, views
from seenanddone.house.hands import Hand, House
from seenanddone.house.register import Register
from seenanddone.house.views import View
from seenanddone.look import looks
from seenanddone.mix import instrument
from seenanddone.part import parting
from seenanddone.same import answers as same_answers
from seenanddone.same import pictures, sayings
from seenanddone.same.pictures import Picture
from seenanddone.straight import treks
from seenanddone.straight.treks import Straight
from seenanddone.text import texts
from seenanddone.text.shell import Shell
from seenanddone.ties import webs
from seenanddone.ties.webs import Web
from seenanddone.web import hiding, trails
from seenanddone.web.diagrams import Diagram
from seenanddone.world import fits
from seenanddone.world.tables import Table
from seenanddone.world.worlds import World, even_world
from tests import helper
from tests.helper import DIAMOND, FORK, FRONT, ODDER, some_world

INTERFACE = {
    "base.numbers": """is_fraction(value) is_name(value) is_lot(value) are_shares(value) fraction(top,bottom=1) plus(one,other)
        minus(one,other) times(one,other) over(one,other) is_below(one,other) total(fractions) power(base,count) union(one,other)
        common(one,other) without(one,other) lots_of(lot,most=None) fraction_text(value) read_fraction(text)""",
    "web.diagrams": "Diagram(things,arrows=(),bows=())",
    "web.trails": "is_trail(diagram,value) meeting(diagram,trail) is_open(diagram,trail,z) is_way(diagram,value)",
    "world.tables": "Table(sizes,shares)",
    "world.worlds": "World(diagram,sizes,hidden,tables) even_world(diagram,size=2)",
    "bars.barred": """marriages(diagram,lot) is_barred(diagram,x,y,z) bar_cut(diagram,x,y,z) is_bar_cut(diagram,x,y,z,value)
        open_trail(diagram,x,y,z) is_open_trail(diagram,x,y,z,value)""",
    "bars.felt": """sum_world(diagram,arrows,bows,*,uneven=None) joints_of(diagram,trail,ways) felt_world(diagram,x,y,z)
        is_felt(diagram,x,y,z,value)""",
    "bars.separators": """least_separators(diagram,a,b) is_least_separator(diagram,a,b,value) nearest(diagram,a,b)
        lightest(diagram,x,y,prices,*,must=()) is_lightest(diagram,x,y,prices,value,*,must=())
        free_road(diagram,x,y,prices,*,must=()) is_free_road(diagram,x,y,prices,value,*,must=())""",
    "world.fits": """does_fit(table,diagram) misfit(table,diagram) is_misfit(table,diagram,value) fitting_world(table,diagram)
        least_diagram(table,order) is_least_diagram(table,order,value)""",
    "ties.webs": """Web(things,ties=()) corner_order(web) is_corner_order(web,value) ring_without_chord(web)
        is_ring_without_chord(web,value) join_tree(web) is_join_tree(web,value) joined(web,tables) does_split(table,web)
        unswapped(table,web) is_unswapped(table,web,value)""",
    "same.sayings": """are_near(diagram,a,b) binding_trail(diagram,a,b) is_binding_trail(diagram,a,b,value)
        does_meet(diagram,a,b,c) answers_of(diagram) is_same(one,other) parting_saying(one,other)
        is_parting_saying(one,other,value) turnings(one,other) is_turnings(one,other,value)""",
    "same.pictures": """Picture(things,arrows=(),open_ties=()) picture_of(diagram) sure_rows(picture,tie)
        is_sure_rows(picture,tie,value) two_members(picture,tie) is_two_members(picture,tie,value)
        turned_from(picture,piece,thing)""",
    "same.answers": """is_answers(things,value) are_tied(things,answers,a,b) arrows_told(things,answers,value)
        picture_of_answers(things,answers) bar_of_answers(things,answers) is_bar_of_answers(things,answers,value)""",
    "deed.deeds": """is_deed(sizes,value) done(world,deed) done_world(world,deed) does_rule_hold(diagram,rule,x,y,z,w)
        breaking_world(diagram,rule,x,y,z,w) is_breaking(diagram,rule,x,y,z,w,value)""",
    "deed.steps": """leading(diagram,x,y) pieces(diagram,x,y) lots_of_steps(diagram,steps) is_steps(diagram,x,y,value)
        steps_of(diagram,x,y) step_value(diagram,table,steps,index,row) told_by_steps(diagram,table,x,y,steps,deed)""",
    "deed.twins": """knot_of(diagram,x,y) is_knot(diagram,x,y,value) is_told(diagram,x,y) twins_of(diagram,x,y)
        are_twins(diagram,x,y,value) unlike_deed(diagram,x,y,twins)""",
    "deed.needs": """must_see(diagram,x,y,*,by='steps') left_open(diagram,x,y,*,by='steps')
        are_sights(diagram,x,y,value,*,by='steps') without_ties(diagram,ties)
        must_rule_out(diagram,x,y,doubtful,*,by='steps') still_doubtful(diagram,x,y,doubtful,*,by='steps')
        are_doubts(diagram,x,y,doubtful,value,*,by='steps') meeting_lots(lots)""",
    "adjust.adjusting": """led(diagram,x,y) trimmed(diagram,x,y) adjusted(table,x,y,z,deed) is_adjusting(diagram,x,y,z)
        adjust_bar(diagram,x,y,z) is_adjust_bar(diagram,x,y,z,value)""",
    "adjust.erring": """bar_world(diagram,x,y,z,bar) erring_world(diagram,x,y,z) is_erring(diagram,x,y,z,value)
        widest_adjusting(diagram,x,y) lightest_adjusting(diagram,x,y,prices)""",
    "straight.treks": """Straight(diagram,weights,pulls,noises) trek_cut(diagram,x,y) is_trek_cut(diagram,x,y,value)
        treks_apart(diagram,x,y) are_treks_apart(diagram,x,y,value) single_door(diagram,a,b,z)
        erring_straight(diagram,a,b,z) is_erring_straight(diagram,a,b,z,value)""",
    "part.parting": """does_tell(picture,lots) unparted(picture,lots) is_unparted(picture,lots,value) left_by(diagram,lots)
        parted_arrows(diagram,lots) greatest_clique(picture) is_greatest_clique(picture,value) fewest_lots(picture)
        is_fewest_lots(picture,value) colours(picture) is_colours(picture,value)""",
    "mix.instrument": """instrument() made_by(mix) effect_of(mix) four_sums(outcomes) mix_of(outcomes) is_mix_of(outcomes,value)
        broken_sum(outcomes) is_broken_sum(outcomes,value) least_effect(outcomes) greatest_effect(outcomes)
        is_least_effect(outcomes,value) is_greatest_effect(outcomes,value) effect_bounds(outcomes) outcomes_of(table)
        mix_world(mix,offer)""",
    "look.looks": """brought(world,deed,gain,looks,policy) best_policy(world,deed,gain,looks)
        is_best_policy(world,deed,gain,looks,value) worth_of(world,deed,gain,looks,look) does_pay(diagram,deed,gain,look)
        look_bar(diagram,deed,gain,look) is_look_bar(diagram,deed,gain,look,value) look_trail(diagram,deed,gain,look)
        is_look_trail(diagram,deed,gain,look,value) paying_world(diagram,deed,gain,look)
        is_paying(diagram,deed,gain,look,value)""",
    "ask.questions": """is_asking(value) asked_things(question) is_question(diagram,value) decide(diagram,question)
        is_paper(diagram,question,verdict,value) show_worlds(diagram,question) is_shown(diagram,question,value)""",
    "house.register": "Register() is_edit(value) edited(diagram,edits)",
    "house.views": """View(diagram,seen) lifted(diagram,seen,world) hiding_lots(diagram,x,y,may)
        is_hiding_lot(diagram,x,y,may,value)""",
    "house.hands": "House() Hand(house,author)",
    "house.log": "write_log(house) read_log(text)",
    "text.texts": """write_diagram(diagram) read_diagram(text) write_question(question) read_question(text) is_data(value)
        write_data(value) read_data(text)""",
    "text.shell": "Shell(house)",
    "web.hiding": """projected(diagram,seen) carrier(diagram,seen,joint) is_carrier(diagram,seen,joint,value)
        unfolded(diagram,names) unfolded_world(world,names)""",
}
METHODS = {
    Diagram: """parents(thing) children(thing) bowed(thing) district(thing) ahead(lot) behind(lot) with_ahead(lot) with_behind(lot)
        cut(lot) bare(lot) part(lot)""",
    Table: "share(event) share_given(event,seen) summed(lot) is_free(x,y,z) rows(lot=None)",
    World: "",
    Web: "tied(thing)",
    Picture: "members() member(index) index_of(diagram)",
    Straight: "covariance(a,b) block(x,y) rank(x,y) coefficient(a,b,z)",
    Register: """begin(name,diagram) edit(name,edits) pin(name,question) do(deed) diagram_at(name,edition=None)
        standing(name,number,edition=None) words(name,edition=None) editions(name) claims(name) twin()""",
    View: "decide(question) is_paper(question,verdict,value) narrowed(lot) pooled(other)",
    House: "at(number=None) commit(author,deeds,*,despite=()) back(count=1) forward(count=1)",
    Hand: "do(deed) decide(name,question) commit(*,despite=())",
    Shell: "say(text) run(texts)",
}
PROPERTIES = {
    Diagram: "things arrows bows ties order districts",
    Table: "things sizes shares full",
    World: "diagram sizes hidden tables seen full",
    Web: "things ties cliques",
    Picture: "things arrows open_ties pieces ways",
    Straight: "diagram weights pulls noises",
    Register: "studies fallen",
    View: "diagram seen hidden projected",
    House: "present commits undone",
    Hand: "author base deeds has_read",
    Shell: "author authors",
}
CONSTANTS = {
    "deed.steps": {"MAX_STEPS": 60}, "deed.needs": {"MAX_TIES": 6, "MAX_MET": 40, "WAYS": ("steps", "lot")},
    "web.diagrams": {"MAX_THINGS": 6}, "world.tables": {"MAX_VALUES": 16, "MAX_ROWS": 4096},
    "world.worlds": {"MAX_HIDDEN": 256, "MAX_BOTTOM": 1000000}, "bars.separators": {"MAX_PRICE": 1000},
    "house.register": {"MAX_STUDIES": 8, "MAX_EDITIONS": 40, "MAX_CLAIMS": 20, "MAX_EDITS": 10},
    "house.hands": {"MAX_COMMITS": 100, "MAX_DEEDS": 10},
    "part.parting": {"MAX_LOTS": 8}, "mix.instrument": {"KINDS": tuple(itertools.product((0, 1), repeat=4))},
}
SPECIAL = {
    Diagram: "__contains__ __len__ __iter__ __eq__ __str__", Table: "__len__ __eq__ __str__", World: "__len__ __eq__ __str__",
    Web: "__contains__ __len__ __eq__ __str__", Picture: "__contains__ __len__ __eq__ __str__",
    Straight: "__eq__ __str__", Register: "__contains__ __len__ __eq__ __str__", View: "__contains__ __len__ __eq__ __str__",
    House: "__len__ __eq__ __str__", Hand: "__len__ __str__", Shell: "__contains__ __len__ __str__"}
FORKED = Diagram(DIAMOND.things, (("a", "b"), ("a", "c"), ("c", "d")))


def told(parameters):
    return re.sub(r"\s", "", str(parameters))


class InterfaceTest(unittest.TestCase):
    def test_functions_and_classes(self):
        for name, entries in INTERFACE.items():
            module = importlib.import_module(f"seenanddone.{name}")
            for entry in re.sub(r",\s+", ",", entries).split():
                word, _, parameters = entry.partition("(")
                value = getattr(module, word)
                self.assertEqual(value.__module__, module.__name__)
                self.assertEqual(told(inspect.signature(value)), "(" + parameters)

    def test_methods_stand_in_their_class(self):
        for kind, entries in METHODS.items():
            for entry in entries.split():
                word, _, parameters = entry.partition("(")
                self.assertEqual(told(inspect.signature(vars(kind)[word])).replace("(self)", "(self,)"), "(self," + parameters)
            for word in PROPERTIES[kind].split():
                self.assertIsInstance(vars(kind)[word], property)
            for word in SPECIAL[kind].split():
                self.assertIn(word, vars(kind))

    def test_properties_cannot_be_set(self):
        world = even_world(FRONT)
        web, picture = Web(("a", "b"), (("a", "b"),)), pictures.picture_of(FORK)
        house = House()
        straight = treks.erring_straight(helper.BACK, "x", "y", ())
        for kind, value in ((Diagram, FRONT), (World, world), (Table, world.seen), (Web, web), (Picture, picture), (Straight, straight),
                            (Register, Register()), (View, View(FRONT, ("x",))), (House, house), (Hand, Hand(house, "ann")), (Shell, Shell(house))):
            for word in PROPERTIES[kind].split():
                with self.assertRaises(AttributeError):
                    setattr(value, word, None)

    def test_generators(self):
        self.assertTrue(inspect.isgeneratorfunction(Table.rows))
        self.assertTrue(inspect.isgeneratorfunction(Picture.members))
        self.assertTrue(inspect.isgeneratorfunction(importlib.import_module("seenanddone.base.numbers").lots_of))


    def test_constants(self):
        for name, values in CONSTANTS.items():
            module = importlib.import_module(f"seenanddone.{name}")
            self.assertEqual({word: getattr(module, word) for word in values}, values)


class JudgeTest(unittest.TestCase):
    """A judge accepts every value, and returns True or False."""

    def judges(self):
        numbers = importlib.import_module("seenanddone.base.numbers")
        for call in (numbers.is_fraction, numbers.is_name, numbers.is_lot, numbers.are_shares):
            yield call
        x, y = ("a",), ("d",)
        yield lambda value: trails.is_trail(DIAMOND, value)
        yield lambda value: trails.is_way(DIAMOND, value)
        yield lambda value: barred.is_bar_cut(DIAMOND, x, y, ("b",), value)
        yield lambda value: barred.is_open_trail(DIAMOND, x, y, ("b",), value)
        yield lambda value: felt.is_felt(DIAMOND, x, y, ("b",), value)
        yield lambda value: separators.is_least_separator(DIAMOND, "a", "d", value)
        yield lambda value: separators.is_lightest(DIAMOND, x, y, {"b": 1}, value, must=("c",))
        yield lambda value: separators.is_free_road(DIAMOND, x, y, {"b": 1}, value)
        yield lambda value: hiding.is_carrier(DIAMOND, x + y, ("a", ">", "d"), value)
        table, square = some_world(DIAMOND, 1).seen, Web(DIAMOND.things, DIAMOND.ties)
        picture, answers = pictures.picture_of(DIAMOND), sayings.answers_of(DIAMOND)
        yield lambda value: fits.is_misfit(table, FORKED, value)
        yield lambda value: fits.is_least_diagram(table, DIAMOND.things, value)
        for call in (webs.is_corner_order, webs.is_ring_without_chord, webs.is_join_tree):
            yield lambda value: call(square, value)
        yield lambda value: webs.is_unswapped(table, square, value)
        yield lambda value: sayings.is_binding_trail(DIAMOND, "a", "d", value)
        yield lambda value: sayings.is_parting_saying(DIAMOND, FORKED, value)
        yield lambda value: sayings.is_turnings(DIAMOND, FORKED, value)
        yield lambda value: pictures.is_sure_rows(picture, ("b", "d"), value)
        yield lambda value: pictures.is_two_members(picture, ("a", "b"), value)
        yield lambda value: same_answers.is_answers(DIAMOND.things, value)
        yield lambda value: same_answers.is_bar_of_answers(DIAMOND.things, answers, value)
        yield lambda value: deeds.is_deed({"a": 2}, value)
        yield lambda value: deeds.is_breaking(DIAMOND, "look", (), x, y, (), value)
        yield lambda value: steps.is_steps(DIAMOND, x, y, value)
        yield lambda value: twins.is_knot(DIAMOND, x, y, value)
        yield lambda value: twins.are_twins(DIAMOND, x, y, value)
        yield lambda value: needs.are_sights(DIAMOND, x, y, value)
        yield lambda value: needs.are_doubts(DIAMOND, x, y, (), value, by="lot")
        yield lambda value: adjusting.is_adjust_bar(DIAMOND, x, y, ("b",), value)
        yield lambda value: erring.is_erring(DIAMOND, x, y, ("b",), value)
        yield lambda value: treks.is_trek_cut(DIAMOND, x, y, value)
        yield lambda value: treks.are_treks_apart(DIAMOND, x, y, value)
        yield lambda value: treks.is_erring_straight(DIAMOND, "b", "d", (), value)
        yield lambda value: parting.is_unparted(picture, (x,), value)
        yield lambda value: parting.is_greatest_clique(picture, value)
        yield lambda value: parting.is_fewest_lots(picture, value)
        yield lambda value: parting.is_colours(picture, value)
        outcomes = dict.fromkeys(itertools.product((0, 1), repeat=3), (1, 4))
        for call in (instrument.is_mix_of, instrument.is_broken_sum, instrument.is_least_effect, instrument.is_greatest_effect):
            yield lambda value: call(outcomes, value)
        forked = even_world(FORKED)
        yield lambda value: looks.is_best_policy(forked, "a", "d", (), value)
        for call in (looks.is_look_bar, looks.is_look_trail, looks.is_paying):
            yield lambda value: call(DIAMOND, "b", "d", "c", value)
        yield register.is_edit
        yield texts.is_data
        yield lambda value: views.is_hiding_lot(DIAMOND, x, y, ("b",), value)
        yield lambda value: View(DIAMOND, ("a", "b", "d")).is_paper(("told", x, y), True, value)
        yield questions.is_asking
        yield lambda value: questions.is_question(DIAMOND, value)
        for question in (("free", x, y, ()), ("adjusts", x, y, ()), ("told", x, y), ("same", FORKED.arrows), ("tells", (x,)), ("pays", "b", "d", "c")):
            yield lambda value: questions.is_paper(DIAMOND, question, True, value)
            yield lambda value: questions.is_paper(DIAMOND, question, False, value)
            yield lambda value: questions.is_shown(DIAMOND, question, value)

    def test_every_value(self):
        pairs = [(one, other) for one in ODDER for other in ODDER[::5]]
        rows = [("a", ">", "b"), ("a", one := None, "d"), ("a", ["b"], "d"), ((), ()), (("a",), {}), ({}, {}), (one, {"a": ("a",)}),
                (("a", ">", "b", ">", "d"), {"d": FORK}), (("b", "c"), ((1, ("a", "b", "d")),)), (("a", "c", "d"),), {"a": {"b": FORK}},
                *((word, one, other) for word in ("meet", "open", "below", "on", "ring", "both", "new", "answer", "piece", "less")
                  for one in (0, (), ("a", "b", "d"), FORK, None, True) for other in ((), ["a"], ("a",), {}, None, FORK)),
                *((word, one) for word in ("on", "split", "chord", "seen") for one in ODDER), *(((value,) * 3,) for value in ODDER),
                (("seen",), ("less", 0, ["a"])), (("seen",), ("piece", "0", ("a",))), (("meet", ["a"], "b", "c"),), ((("a",), ["b"], ()),) * 2]
        for judge in self.judges():
            for value in list(ODDER) + pairs + rows + [list(pair) for pair in pairs[::7]]:
                self.assertIn(judge(value), (True, False))
                self.assertIsInstance(judge(value), bool)


class ArgumentsStayTest(unittest.TestCase):
    def test_dicts_stay(self):
        prices = {"c": 3, "b": 2}
        for call in (separators.lightest, separators.free_road):
            call(DIAMOND, ("a",), ("d",), prices)
        value = separators.lightest(DIAMOND, ("a",), ("d",), prices)
        self.assertIs(separators.is_lightest(DIAMOND, ("a",), ("d",), prices, value), True)
        self.assertEqual(list(prices.items()), [("c", 3), ("b", 2)])
        trail = barred.open_trail(DIAMOND, ("b",), ("c",), ("d",))
        kept = copy.deepcopy(trail)
        trail[1].clear()
        self.assertEqual(barred.open_trail(DIAMOND, ("b",), ("c",), ("d",)), kept)
        felt.joints_of(DIAMOND, *kept)
        self.assertEqual(kept, barred.open_trail(DIAMOND, ("b",), ("c",), ("d",)))

    def test_deeds_stay(self):
        world, deed = some_world(FRONT, 1), {"x": 1}
        tables, hidden, sizes = world.tables, world.hidden, world.sizes
        path = (("seen",), ("piece", 0, ("z",)), ("piece", 0, ("x", "y")), ("less", 2, ("y",)))
        told = steps.told_by_steps(FRONT, world.seen, ("x",), ("y",), path, deed)
        told.clear()
        self.assertEqual(len(steps.told_by_steps(FRONT, world.seen, ("x",), ("y",), path, deed)), world.sizes["y"])
        for call in (lambda: deeds.done(world, deed), lambda: deeds.done_world(world, deed), lambda: deeds.done_evenly(world, ("x",)),
                     lambda: adjusting.adjusted(world.seen, ("x",), ("y",), ("z",), deed)):
            self.assertEqual(call(), call())
            self.assertEqual((world.tables, world.hidden, world.sizes, deed), (tables, hidden, sizes, {"x": 1}))
        answers = sayings.answers_of(DIAMOND)
        kept = copy.deepcopy(answers)
        same_answers.bar_of_answers(DIAMOND.things, answers)
        self.assertEqual(answers, kept)
        answers.clear()
        self.assertEqual(sayings.answers_of(DIAMOND), kept)
        prices = {"c": 3, "b": 2}
        erring.lightest_adjusting(DIAMOND, ("a",), ("d",), prices)
        self.assertEqual(list(prices.items()), [("c", 3), ("b", 2)])
        bar = adjusting.adjust_bar(helper.MEET, ("a",), ("c",), ("b",))
        bar[2].clear()
        self.assertEqual(adjusting.adjust_bar(helper.MEET, ("a",), ("c",), ("b",))[2], {"b": ("b",)})
        deeds_of = twins.unlike_deed(helper.BOW, ("x",), ("y",), twins.twins_of(helper.BOW, ("x",), ("y",)))
        self.assertEqual(list(deeds_of[0]), ["x"])

    def test_mixes_and_policies_stay(self):
        outcomes = dict.fromkeys(itertools.product((1, 0), repeat=3), (1, 4))
        kept = list(outcomes.items())
        low = instrument.least_effect(outcomes)
        instrument.effect_bounds(outcomes)
        self.assertIs(instrument.is_least_effect(outcomes, low), True)
        self.assertEqual(list(outcomes.items()), kept)
        low[1].clear()
        self.assertEqual(len(instrument.least_effect(outcomes)[1]), 8)
        world = some_world(helper.BACK, 1)
        policy = {(value,): value % world.sizes["x"] for value in reversed(range(world.sizes["u"]))}
        kept = list(policy.items())
        self.assertEqual(looks.brought(world, "x", "y", ("u",), policy), looks.brought(world, "x", "y", ("u",), dict(kept)))
        self.assertEqual(list(policy.items()), kept)
        best = looks.best_policy(world, "x", "y", ("u",))
        best.clear()
        self.assertEqual(len(looks.best_policy(world, "x", "y", ("u",))), world.sizes["u"])
        told = parting.colours(pictures.picture_of(FORK))
        told.clear()
        self.assertEqual(len(parting.colours(pictures.picture_of(FORK))), 3)
        paper = questions.decide(FORK, ("free", ("a",), ("c",), ()))[1]
        paper[1]["q"] = 1
        self.assertEqual(questions.decide(FORK, ("free", ("a",), ("c",), ()))[1][1], {})

    def test_equal_calls_return_equal_results(self):
        world = some_world(FRONT, 1)
        self.assertEqual(world.seen.summed(("x", "y")), some_world(FRONT, 1).seen.summed(("x", "y")))
        for _ in range(2):
            self.assertEqual(hiding.projected(FRONT, ("x", "y")), helper.BOW)


class DocumentTest(unittest.TestCase):
    """The examples that stand in the document."""

    def test_examples(self):
        path = pathlib.Path(__file__).resolve().parent.parent.parent / "shared" / "DOC.md"
        if not path.is_file():
            self.skipTest("the document is not beside the project")
        text = path.read_text()
        names = {name: getattr(helper, name) for name in ("FORK", "MEET", "BOW", "FRONT", "BACK")}
        for name in INTERFACE:
            names.update(vars(importlib.import_module(f"seenanddone.{name}")))
        stages = re.split(r"^## ", text, flags=re.M)
        ran = 0
        for stage in stages:
            if not re.match(r"Stage [0-9]+:", stage):
                continue
            for block in re.findall(r"^```\n(>>> .*?)^```", stage, flags=re.M | re.S):
                lines = block.splitlines()
                for at, line in enumerate(lines):
                    if line.startswith(">>> ") and (at + 1 == len(lines) or lines[at + 1].startswith(">>> ")):
                        exec(line[4:], names)
                    elif line.startswith(">>> "):
                        self.assertEqual(repr(eval(line[4:], names)), lines[at + 1])
                        ran += 1
        self.assertEqual(ran, 20)


if __name__ == "__main__":
    unittest.main()
