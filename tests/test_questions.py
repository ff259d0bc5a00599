"""Stage 21: questions, verdicts, and papers as data."""
import itertools
import random
import unittest

from seenanddone.adjust.adjusting import adjust_bar, is_adjusting, led, trimmed
from seenanddone.adjust.erring import erring_world, is_erring
from seenanddone.ask.questions import asked_things, decide, is_asking, is_paper, is_question, is_shown, show_worlds
from seenanddone.bars.barred import is_bar_cut, is_barred, is_open_trail
from seenanddone.bars.felt import felt_world, is_felt
from seenanddone.deed.steps import is_steps
from seenanddone.deed.twins import are_twins, is_knot, is_told, twins_of
from seenanddone.errors import InvalidDiagram, InvalidOperation, InvalidQuestion
from seenanddone.look.looks import does_pay, is_look_bar, is_look_trail, is_paying, paying_world
from seenanddone.part.parting import does_tell
from seenanddone.same.pictures import picture_of
from seenanddone.same.sayings import is_same, is_turnings
from seenanddone.web.diagrams import Diagram
from seenanddone.world.worlds import World, even_world
from tests.helper import (
    BACK, BOW, DIAMOND, FORK, FRONT, MEET, NO_DIAGRAMS, ODDER, bowless_diagrams, check_errors, check_judge,
    lots_within, plain_ahead, small_diagrams, some_diagrams, some_effects, some_sayings, some_world)

TIP = Diagram(("d", "g", "w"), (("d", "g"), ("w", "g")))
CHAIN = Diagram(("a", "b", "c"), (("a", "b"), ("b", "c")))

# One question of each kind, and what spoils it at one place.
FORMS = {
    ("free", ("a",), ("c",), ("b",)): [
        ("free", (), ("c",), ("b",)), ("free", ("a",), (), ("b",)), ("free", ("a",), ("a",), ("b",)), ("free", ("a",), ("c",), ("a",)), ("free", ("a",), ("c",)),
        ("free", ("a",), ("b", "c"), ("b",)), ("free", ["a"], ("c",), ("b",)), ("free", "a", ("c",), ("b",)), ("free", ("A",), ("c",), ("b",)),
        ("free", ("a",), ("c",), ("b",), ()), ["free", ("a",), ("c",), ("b",)], ("Free", ("a",), ("c",), ("b",)), ("free", ("c", "a"), ("d",), ()), ("free", ("a",), ("c",), None)],
    ("adjusts", ("a",), ("c",), ()): [
        ("adjusts", (), ("c",), ()), ("adjusts", ("a",), (), ()), ("adjusts", ("a",), ("c",), ("c",)), ("adjusts", ("a",), ("c",)), ("adjusts", ("a",), ("c",), {}), ("adjusts",)],
    ("told", (), ("c",)): [
        ("told", ("c",), ("c",)), ("told", (), ()), ("told", ("c",), ()), ("told", ("c",)), ("told", (), ("c",), ()), ("told", [], ("c",)), ("told", (), ("c", "a")), ("told", None, ("c",))],
    ("same", (("a", "b"), ("c", "b"))): [
        ("same", (("c", "b"), ("a", "b"))), ("same", (("a", "b"), ("a", "b"))), ("same", (("a", "a"),)), ("same", (("a",),)), ("same", (("a", "b", "c"),)), ("same", ("a", "b")),
        ("same", [("a", "b")]), ("same", (["a", "b"],)), ("same",), ("same", (), ()), ("same", (("a", "B"),)), ("same", None), ("same", (("a", 1),))],
    ("tells", (("a", "b"), (), ("a", "b"))): [
        ("tells", ("a",)), ("tells", (("b", "a"),)), ("tells", [()]), ("tells", ((),) * 9), ("tells",), ("tells", (), ()), ("tells", (["a"],)), ("tells", (("a", "a"),)), ("tells", None)],
    ("pays", "a", "b", "c"): [
        ("pays", "a", "b", "b"), ("pays", "a", "a", "b"), ("pays", "a", "b", "a"), ("pays", "a", "b"), ("pays", "a", "b", "c", "d"), ("pays", ("a",), "b", "c"), ("pays", "a", "b", "C"),
        ("pays", "a", "b", None), ("pays", "a", "b", []), ["pays", "a", "b", "c"], ("pays",), ("Pays", "a", "b", "c"), (None, "a", "b", "c")],
}


def questions_of(diagram, seed, many=5):
    """Questions of a diagram, of all kinds that it has."""
    draw = random.Random(seed)
    for saying in some_sayings(diagram.things, many, seed):
        yield ("free",) + saying
        yield ("adjusts",) + saying
    for effect in some_effects(diagram.things, many, seed):
        yield ("told",) + effect
    for deed, gain, look in list(itertools.permutations(diagram.things, 3))[:many * 2]:
        if deed not in plain_ahead(diagram, look) and (look, deed) not in diagram.arrows:
            yield ("pays", deed, gain, look)
    if not diagram.bows:
        for at in range(many):
            order = list(diagram.things)
            draw.shuffle(order)
            if at % 2:
                arrows = sorted(pair if order.index(pair[0]) < order.index(pair[1]) else pair[::-1] for pair in diagram.ties)
            else:
                arrows = sorted(pair for pair in itertools.combinations(order, 2) if draw.random() < 0.5)
            yield ("same", tuple(arrows))
            lots = lots_within(diagram.things)
            yield ("tells", tuple(draw.choice(lots) for _ in range(at)))


def cases():
    for seed, diagram in enumerate(itertools.chain(
            list(small_diagrams())[::4], list(bowless_diagrams(("a", "b", "c"))), some_diagrams(25, 4, 211, 0.5, 0.3),
            some_diagrams(15, 4, 212, 0.6, 0), some_diagrams(6, 5, 213, 0.5, 0.2), some_diagrams(6, 5, 214, 0.6, 0))):
        for question in questions_of(diagram, seed):
            yield diagram, question


def plain_verdict(diagram, question):
    """The verdict that the stages tell."""
    word, *parts = question
    if word == "free":
        return is_barred(diagram, *parts)
    if word == "adjusts":
        return is_adjusting(diagram, *parts)
    if word == "told":
        return is_told(diagram, *parts)
    if word == "same":
        return is_same(diagram, Diagram(diagram.things, parts[0]))
    if word == "tells":
        return does_tell(picture_of(diagram), parts[0])
    return does_pay(diagram, *parts)


def check_paper(test, diagram, question, verdict, paper):
    """A paper by the judges of the stages, or part by part."""
    word, *parts = question
    if word == "free":
        test.assertTrue((is_bar_cut if verdict else is_open_trail)(diagram, *parts, paper))
    elif word == "adjusts" and verdict:
        x, y, z = parts
        test.assertFalse(set(led(diagram, x, y)) & set(z))
        test.assertTrue(is_bar_cut(trimmed(diagram, x, y), x, y, z, paper))
    elif word == "adjusts":
        test.assertEqual(paper, adjust_bar(diagram, *parts))
    elif word == "told":
        test.assertTrue((is_steps if verdict else is_knot)(diagram, *parts, paper))
    elif word == "same" and verdict:
        test.assertTrue(is_turnings(diagram, Diagram(diagram.things, parts[0]), paper))
    elif word == "same":
        saying, cut, trail = paper
        other = Diagram(diagram.things, parts[0])
        ends = (diagram, other) if is_barred(diagram, *saying) else (other, diagram)
        test.assertTrue(is_bar_cut(ends[0], *saying, cut) and is_open_trail(ends[1], *saying, trail))
    elif word == "tells" and verdict:
        test.assertEqual([tie for tie, _ in paper], list(picture_of(diagram).open_ties))
        test.assertTrue(all(len(set(tie) & set(parts[0][index])) == 1 for tie, index in paper))
    elif word == "tells":
        tie, one, other = paper
        one, other = Diagram(diagram.things, one), Diagram(diagram.things, other)
        test.assertTrue(one in picture_of(diagram) and other in picture_of(diagram))
        test.assertTrue(tie in one.arrows and tie[::-1] in other.arrows)
        test.assertTrue(all(one.cut(lot).ties == other.cut(lot).ties for lot in parts[0]))
    else:
        test.assertTrue((is_look_trail if verdict else is_look_bar)(diagram, *parts, paper))


class FormTest(unittest.TestCase):
    def test_forms(self):
        wrong = [value for values in FORMS.values() for value in values]
        check_judge(self, is_asking, list(FORMS), wrong)
        for value in wrong + list(ODDER):
            with self.assertRaises(InvalidQuestion):
                asked_things(value)
        # The form does not ask for a diagram: rings, and any number of names.
        for value in (("same", (("a", "b"), ("b", "a"))), ("free", tuple("abcdefgh"), ("z",), ()), ("tells", ()), ("same", ()), ("tells", ((),) * 8)):
            self.assertIs(is_asking(value), True)

    def test_names(self):
        told = {
            ("free", ("c",), ("a", "d"), ("b",)): ("a", "b", "c", "d"), ("adjusts", ("b",), ("a",), ()): ("a", "b"), ("told", (), ("q",)): ("q",), ("same", (("b", "c"), ("c", "a"))): ("a", "b", "c"),
            ("same", ()): (), ("tells", (("z",), (), ("a", "z"))): ("a", "z"), ("tells", ()): (), ("pays", "w", "d", "g"): ("d", "g", "w"),
            ("pays", "look", "deed", "gain9"): ("deed", "gain9", "look")}
        for question, names in told.items():
            self.assertEqual(asked_things(question), names)

    def test_questions_of_a_diagram(self):
        for question, wrong in FORMS.items():
            self.assertIs(is_question(MEET, question), True)
            self.assertFalse(any(is_question(MEET, value) for value in wrong))
            self.assertIs(is_question(BACK, question), False)
        self.assertFalse(any(is_question(MEET, value) for value in ODDER))
        bowed = Diagram(MEET.things, MEET.arrows, (("a", "c"),))
        self.assertEqual([is_question(bowed, question) for question in FORMS], [True, True, True, False, False, True])
        for arrows, right in (((("a", "b"), ("b", "a")), False), ((("a", "b"), ("b", "c"), ("c", "a")), False), ((("a", "b"), ("a", "c"), ("b", "c")), True),
                              ((("a", "q"),), False), ((), True)):
            self.assertIs(is_question(MEET, ("same", arrows)), right)
        for question, right in ((("pays", "a", "c", "b"), False), (("pays", "b", "c", "a"), False), (("pays", "c", "b", "a"), True), (("pays", "a", "b", "c"), True)):
            self.assertIs(is_question(MEET, question), right)
        line = Diagram(("a", "b", "c", "d"), (("a", "b"), ("b", "c"), ("c", "d")))
        self.assertEqual([is_question(line, ("pays", a, b, c)) for a, b, c in (("a", "b", "d"), ("d", "b", "a"), ("d", "b", "c"))], [False, True, False])
        self.assertIs(is_question(MEET, ("tells", (("a", "q"),))), False)

    def test_errors(self):
        bad = tuple(value for values in FORMS.values() for value in values) + ODDER + (("free", ("q",), ("a",), ()), ("same", (("a", "b"), ("b", "a"))))
        question = ("free", ("a",), ("c",), ("b",))
        check_errors(self, is_question, (FORK, question), {0: (InvalidDiagram, NO_DIAGRAMS)})
        for call, more in ((decide, ()), (show_worlds, ()), (is_shown, (None,))):
            check_errors(self, call, (FORK, question) + more, {0: (InvalidDiagram, NO_DIAGRAMS), 1: (InvalidQuestion, bad)})
        check_errors(self, is_paper, (FORK, question, True, None), {
            0: (InvalidDiagram, NO_DIAGRAMS), 1: (InvalidQuestion, bad), 2: (InvalidOperation, tuple(value for value in ODDER if not isinstance(value, bool)))})


class VerdictTest(unittest.TestCase):
    def test_verdicts_and_papers(self):
        told = {}
        for diagram, question in cases():
            self.assertIs(is_question(diagram, question), True)
            verdict, paper = decide(diagram, question)
            self.assertIs(verdict, plain_verdict(diagram, question))
            check_paper(self, diagram, question, verdict, paper)
            self.assertIs(is_paper(diagram, question, verdict, paper), True)
            self.assertIs(is_paper(diagram, question, not verdict, paper), False)
            key = (question[0], verdict)
            told.setdefault(key, []).append(paper)
            # Papers of other questions count where the stages take them, and never for the other verdict.
            for other in told.get((question[0], not verdict), [])[-3:]:
                self.assertIs(is_paper(diagram, question, not verdict, other), False)
        self.assertEqual(len(told), 12)
        self.assertTrue(all(len(papers) > 10 for papers in told.values()), {key: len(papers) for key, papers in told.items()})

    def test_every_value_is_judged(self):
        for question in FORMS:
            for verdict in (True, False):
                for value in ODDER + tuple((one, other) for one in ODDER[::3] for other in ODDER[::4]) + tuple((one, (), one) for one in ODDER):
                    found = is_paper(MEET, question, verdict, value)
                    self.assertIsInstance(found, bool)
                    self.assertTrue(not found or decide(MEET, question)[0] is verdict)
                self.assertIsInstance(is_shown(MEET, question, (None,)), bool)

    def test_examples(self):
        self.assertEqual(decide(FORK, ("free", ("a",), ("c",), ("b",))), (True, ("a",)))
        self.assertEqual(decide(BOW, ("told", ("x",), ("y",))), (False, (("y",), ("x", "y"))))
        self.assertEqual(decide(FORK, ("tells", (("b",),))), (True, ((("a", "b"), 0), (("b", "c"), 0))))

    def test_papers_of_other_making(self):
        def judge(diagram, question, verdict, right, wrong):
            check_judge(self, lambda value: is_paper(diagram, question, verdict, value), right, wrong)
            check_judge(self, lambda value: is_paper(diagram, question, not verdict, value), [], list(right) + list(wrong))
        judge(FORK, ("free", ("a",), ("c",), ("b",)), True, [("a",)], [("c",), ("a", "b"), ["a"]])
        judge(DIAMOND, ("free", ("b",), ("c",), ()), False, [(("b", "<", "a", ">", "c"), {})], [(("b", "<", "a", ">", "c"), {"a": ("a",)}), (("b", ">", "d", "<", "c"), {})])
        judge(BACK, ("adjusts", ("x",), ("y",), ("u",)), True, [("x",)], [("y",), ("u", "x"), ["x"]])
        judge(BACK, ("adjusts", ("x",), ("y",), ()), False, [("open", ("x", "<", "u", ">", "y"), {})], [("on", ("x", "y"))])
        # A bar cut alone does not show that a lot adjusts: no thing of it may be led.
        led_to = Diagram(("x", "y", "z"), (("x", "y"), ("x", "z")), ())
        self.assertIs(is_paper(led_to, ("adjusts", ("x",), ("y",), ("z",)), True, ("x",)), True)
        below = Diagram(("x", "y", "z"), (("x", "y"), ("y", "z")))
        self.assertIs(is_bar_cut(trimmed(below, ("x",), ("y",)), ("x",), ("y",), ("z",), ("x",)), True)
        self.assertIs(is_paper(below, ("adjusts", ("x",), ("y",), ("z",)), True, ("x",)), False)
        path = (("seen",), ("piece", 0, ("z",)), ("piece", 0, ("x", "y")), ("less", 2, ("y",)))
        judge(FRONT, ("told", ("x",), ("y",)), True, [path, path + path[1:2]], [path[:3], path[1:], list(path), (("y",), ("x", "y"))])
        judge(BOW, ("told", ("x",), ("y",)), False, [(("y",), ("x", "y"))], [(("y",), ("y",)), (("x",), ("x", "y")), (("seen",),)])
        judge(CHAIN, ("same", FORK.arrows), True, [(("a", "b"),), (("a", "b"), ("b", "a"), ("a", "b"))], [(), (("b", "c"),), (("b", "a"),), [("a", "b")]])
        saying = (("a",), ("c",), ())
        trail = (("a", ">", "b", ">", "c"), {})
        judge(CHAIN, ("same", MEET.arrows), False, [(saying, ("a",), trail), ((("c",), ("a",), ()), ("c",), (("c", "<", "b", "<", "a"), {}))], [
            (saying, ("c",), trail), (saying, ("a",), trail[0]), (saying, ("a", "b"), trail), (saying, ("a",)), ((("a",), ("c",), ("b",)), ("a",), trail),
            (saying[:2], ("a",), trail), [saying, ("a",), trail], (list(saying), ("a",), trail), (None, ("a",), trail), ((("a",), ("q",), ()), ("a",), trail)])
        back = (("c",), ("a",), ("b",))
        self.assertIs(is_paper(CHAIN, ("same", MEET.arrows), False, (back, ("c",), (("c", ">", "b", "<", "a"), {"b": ("b",)}))), True)
        judge(FORK, ("tells", (("b",), ("a", "c"))), True, [((("a", "b"), 0), (("b", "c"), 0)), ((("a", "b"), 1), (("b", "c"), 0))], [
            ((("a", "b"), 0),), ((("b", "c"), 0), (("a", "b"), 0)), ((("a", "b"), 0), (("b", "c"), 2)), ((("a", "b"), 0), (("b", "c"), False)),
            ((("a", "b"), 0), (("b", "c"), -1)), ((("a", "b"), 0), (("b", "c"), 0), (("b", "c"), 1)), [(("a", "b"), 0), (("b", "c"), 0)],
            ((("a", "b"), 0), (("b", "c"), 0, 0)), ((("a", "b"), 0), (("b", "c"),)), ((("a", "b"), 0), [("b", "c"), 0])])
        one, other = (("b", "a"), ("b", "c")), (("b", "a"), ("c", "b"))
        judge(FORK, ("tells", (("a",),)), False, [(("b", "c"), one, other)], [
            (("b", "c"), other, one), (("a", "b"), one, other), (("b", "c"), one, one), (("b", "c"), one), (("b", "c"), one, (("a", "b"), ("c", "b"))),
            (("b", "c"), one, (("b", "c"), ("c", "b"))), (("b", "c"), list(one), other), (("b", "c"), None, other), (("b", "c"), one, (("b", "q"),))])
        judge(TIP, ("pays", "d", "g", "w"), True, [((("w", ">", "g"), {}), ("d", "g"))], [("behind", ("d",)), (("w", ">", "g"), ("d", "g"))])
        judge(CHAIN, ("pays", "c", "b", "a"), False, [("behind", ("c",))], [("behind", ("b", "c")), ("cut", ("a",)), ("behind", ("a",))])

    def test_no_paper_for_each_lesser_diagram(self):
        """[21.4]"""
        paper = decide(FORK, ("free", ("a",), ("c",), ()))[1]
        self.assertIs(is_paper(Diagram(FORK.things, FORK.arrows[:1]), ("free", ("a",), ("c",), ()), False, paper), False)


class ShownTest(unittest.TestCase):
    def test_worlds(self):
        kinds = set()
        for diagram, question in itertools.islice(cases(), 0, None, 2):
            word, *parts = question
            verdict = plain_verdict(diagram, question)
            shown = show_worlds(diagram, question)
            self.assertIs(is_shown(diagram, question, shown), True)
            self.assertIs(type(shown), tuple)
            needed = {"told": 2 * (not verdict), "tells": 0, "pays": int(verdict)}.get(word, int(not verdict))
            self.assertEqual(len(shown), needed)
            kinds.add((word, needed))
            self.assertIs(is_shown(diagram, question, ()), needed == 0)
            self.assertFalse(is_shown(diagram, question, shown + (even_world(diagram),)))
            if word == "free" and needed:
                self.assertTrue(is_felt(diagram, *parts, shown[0]))
            elif word == "adjusts" and needed:
                self.assertTrue(is_erring(diagram, *parts, shown[0]))
            elif word == "told" and needed:
                self.assertTrue(are_twins(diagram, *parts, shown))
            elif word == "pays" and needed:
                self.assertTrue(is_paying(diagram, *parts, shown[0]))
            elif word == "same" and needed:
                self.check_unlike(diagram, Diagram(diagram.things, parts[0]), shown[0])
        self.assertEqual(len(kinds), 11)

    def check_unlike(self, one, other, world):
        """Some saying of the other diagram does not hold in the seen table."""
        self.assertIn(world.diagram, (one, other))
        self.assertTrue(world.full)
        rest = other if world.diagram == one else one
        self.assertTrue(any(
            is_barred(rest, (a,), (b,), z) and not world.seen.is_free((a,), (b,), z)
            for a, b in itertools.combinations(one.things, 2)
            for z in lots_within([t for t in one.things if t not in (a, b)])))

    def test_judge_of_same_against_all_sayings(self):
        taken = 0
        for seed, (diagram, other) in enumerate(itertools.product(list(bowless_diagrams(("a", "b", "c"))), repeat=2)):
            if seed % 3 or is_same(diagram, other):
                continue
            for world in (some_world(diagram, seed, (2,)), some_world(other, seed, (2,)), even_world(diagram), some_world(Diagram(diagram.things), seed)):
                rest = other if world.diagram == diagram else diagram
                right = world.diagram in (diagram, other) and any(
                    is_barred(rest, (a,), (b,), z) and not world.seen.is_free((a,), (b,), z)
                    for a, b in itertools.combinations("abc", 2) for z in lots_within([t for t in "abc" if t not in (a, b)]))
                self.assertIs(is_shown(diagram, ("same", other.arrows), (world,)), right)
                taken += right
        self.assertGreater(taken, 50)

    def test_judges(self):
        def judge(diagram, question, right, wrong):
            check_judge(self, lambda value: is_shown(diagram, question, value), right, wrong)
        felt = felt_world(FORK, ("a",), ("c",), ())
        judge(FORK, ("free", ("a",), ("c",), ()), [(felt,)], [felt, [felt], (felt, felt), (even_world(FORK),)])
        err = erring_world(BACK, ("x",), ("y",), ())
        judge(BACK, ("adjusts", ("x",), ("y",), ()), [(err,)], [err, [err], (err, err), (even_world(BACK),)])
        twins = twins_of(BOW, ("x",), ("y",))
        judge(BOW, ("told", ("x",), ("y",)), [twins, twins[::-1]], [twins[:1], (twins,), list(twins), twins + twins[:1], twins[:1] * 2])
        pays = paying_world(TIP, "d", "g", "w")
        judge(TIP, ("pays", "d", "g", "w"), [(pays,)], [pays, [pays], (even_world(TIP),), (pays, pays)])
        unlike = felt_world(CHAIN, ("a",), ("c",), ())
        judge(CHAIN, ("same", MEET.arrows), [(unlike,), (felt_world(MEET, ("a",), ("c",), ("b",)),)], [unlike, [unlike], (unlike, unlike), (even_world(CHAIN),), (even_world(MEET),), (felt,),
            (some_world(Diagram(CHAIN.things, (("a", "b"), ("a", "c"), ("b", "c"))), 1),), (even_world(BACK),), (some_world(BACK, 1),)])
        for diagram, question in ((FORK, ("free", ("a",), ("c",), ("b",))), (BACK, ("adjusts", ("x",), ("y",), ("u",))), (FRONT, ("told", ("x",), ("y",))),
                                  (FORK, ("tells", ())), (FORK, ("tells", (("b",),))), (CHAIN, ("same", FORK.arrows)), (CHAIN, ("pays", "c", "b", "a"))):
            values = [value for value in ODDER if value != ()] + [(even_world(diagram),), (felt,), twins, ((),)]
            self.assertIs(is_shown(diagram, question, ()), True)
            self.assertFalse(any(is_shown(diagram, question, value) for value in values))

    def test_worlds_that_are_not_full(self):
        sure = World(CHAIN, dict.fromkeys("abc", 2), {}, {
            "a": {(): ((1, 2), (1, 2))}, "b": {(0,): ((1, 1), (0, 1)), (1,): ((0, 1), (1, 1))}, "c": {(0,): ((1, 1), (0, 1)), (1,): ((0, 1), (1, 1))}})
        self.assertIs(is_shown(CHAIN, ("same", MEET.arrows), (sure,)), False)
        self.assertIs(is_shown(CHAIN, ("free", ("a",), ("c",), ()), (sure,)), False)


if __name__ == "__main__":
    unittest.main()
