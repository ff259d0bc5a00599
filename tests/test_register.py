"""Stage 22: edits, studies, editions, claims and their standings."""
import itertools
import random
import unittest

from seenanddone.ask.questions import decide, is_paper, is_question
from seenanddone.errors import (
    InvalidDiagram, InvalidName, InvalidNumber, InvalidOperation, InvalidQuestion, InvalidStudy, Refused, TooMany,
    UnknownName)
from seenanddone.house.register import (
    MAX_CLAIMS, MAX_EDITIONS, MAX_EDITS, MAX_STUDIES, Register, edited, is_edit)
from seenanddone.web.diagrams import Diagram
from seenanddone.web.hiding import projected
from tests.helper import (
    BOW, DIAMOND, FORK, FRONT, MEET, NO_DIAGRAMS, ODDER, check_errors, check_judge, has_ring, small_diagrams, some_diagrams)
from tests.test_questions import questions_of

SIX = ("a", "b", "c", "d", "e", "f")
TOLD = ("told", ("x",), ("y",))
NO_EDITS = (
    ("arrow", "a"), ("arrow", "a", "a"), ("arrow", "a", "b", "c"), ("arrow", "a", "B"), ("arrow", ("a",), "b"), ["arrow", "a", "b"], ("bow", "a", "a"), ("thing",), ("thing", "a", "b"),
    ("thing", ""), ("drop",), ("hide", "a", "b"), ("Arrow", "a", "b"), ("no", "a", "b"), ("no thing", "a"), ("turn", "a"), (["arrow"], "a", "b"), ("arrow", "a", None), ("arrow",),
    ("no arrow", "a", "a"), ("no bow", "a"), (None, "a"), ("thing", ["a"]), ("thing", 1))
NO_NAMES = (None, True, 0, "", "Q", "a b", "abcdefghi", "1a", (), ("q",), [], {}, FORK)


def plain_edit(things, arrows, bows, edit):
    """The parts of a diagram behind an edit, or the first word that refuses it; sets of pairs."""
    word, *names = edit
    pair = tuple(names)
    bow = tuple(sorted(names))
    there = {"arrow": pair in arrows, "bow": bow in bows, "no arrow": pair in arrows, "no bow": bow in bows, "turn": pair in arrows}
    words = []
    adds_thing = word == "thing"
    if not adds_thing and not set(names) <= set(things) or word in ("no arrow", "no bow", "turn") and not there[word]:
        words.append("unknown")
    if adds_thing and names[0] in things or word in ("arrow", "bow") and there[word]:
        words.append("taken")
    made = set(arrows)
    if word == "arrow" and set(names) <= set(things):
        made.add(pair)
    if word == "turn" and there[word]:
        made = made - {pair} | {pair[::-1]}
    if word in ("arrow", "turn") and has_ring(things, made):
        words.append("ring")
    if adds_thing and len(things) == 6:
        words.append("many")
    if word in ("drop", "hide") and set(things) <= set(names):
        words.append("last")
    if words:
        return words[0]
    things, bows = set(things), set(bows)
    if word == "thing":
        things.add(names[0])
    elif word == "no arrow":
        made.discard(pair)
    elif word == "bow":
        bows.add(bow)
    elif word == "no bow":
        bows.discard(bow)
    elif word == "drop":
        things.discard(names[0])
        made = {arrow for arrow in made if names[0] not in arrow}
        bows = {one for one in bows if names[0] not in one}
    elif word == "hide":
        rest = projected(Diagram(tuple(sorted(things)), tuple(sorted(made)), tuple(sorted(bows))), tuple(sorted(things - {names[0]})))
        return rest
    return Diagram(tuple(sorted(things)), tuple(sorted(made)), tuple(sorted(bows)))


def all_edits(names):
    for a, b in itertools.permutations(names, 2):
        for word in ("arrow", "bow", "no arrow", "no bow", "turn"):
            yield (word, a, b)
    for a in names:
        for word in ("thing", "drop", "hide"):
            yield (word, a)


class EditTest(unittest.TestCase):
    def test_forms(self):
        check_judge(self, is_edit, list(all_edits(("a", "b9", "z"))), NO_EDITS)

    def test_each_edit_against_plain_sets(self):
        words = set()
        diagrams = list(small_diagrams())[::6] + list(some_diagrams(12, 4, 221)) + list(some_diagrams(4, 6, 222, 0.3, 0.2)) + [Diagram(("a",))]
        for diagram in diagrams:
            names = diagram.things[:4] + ("q",)
            for edit in all_edits(names):
                right = plain_edit(diagram.things, diagram.arrows, diagram.bows, edit)
                if isinstance(right, Diagram):
                    self.assertEqual(edited(diagram, (edit,)), right)
                    continue
                words.add((edit[0], right))
                with self.assertRaises(Refused) as caught:
                    edited(diagram, (edit,))
                self.assertEqual(caught.exception.reason, ("edit", 0, right))
        self.assertEqual(words, {
            ("arrow", "unknown"), ("arrow", "taken"), ("arrow", "ring"), ("bow", "unknown"), ("bow", "taken"), ("no arrow", "unknown"), ("no bow", "unknown"),
            ("turn", "unknown"), ("turn", "ring"), ("thing", "taken"), ("thing", "many"), ("drop", "unknown"), ("drop", "last"), ("hide", "unknown"), ("hide", "last")})

    def test_which_word_where_two_apply(self):
        def refusal(diagram, *edits):
            with self.assertRaises(Refused) as caught:
                edited(diagram, edits)
            return caught.exception.reason
        full = Diagram(SIX, (("a", "b"),))
        self.assertEqual(refusal(full, ("thing", "a")), ("edit", 0, "taken"))
        self.assertEqual(refusal(full, ("thing", "q")), ("edit", 0, "many"))
        self.assertEqual(refusal(Diagram(("a",)), ("drop", "q")), ("edit", 0, "unknown"))
        self.assertEqual(refusal(Diagram(("a",)), ("hide", "a")), ("edit", 0, "last"))
        self.assertEqual(refusal(full, ("arrow", "b", "a")), ("edit", 0, "ring"))
        self.assertEqual(refusal(full, ("arrow", "b", "q")), ("edit", 0, "unknown"))
        self.assertEqual(refusal(BOW, ("bow", "y", "x")), ("edit", 0, "taken"))
        # The index in a row of edits, each behind those ahead of it.
        self.assertEqual(refusal(FORK, ("no arrow", "b", "a"), ("arrow", "a", "b"), ("arrow", "b", "a")), ("edit", 2, "ring"))
        self.assertEqual(refusal(FORK, ("drop", "a"), ("drop", "b"), ("thing", "a"), ("drop", "c"), ("hide", "a")), ("edit", 4, "last"))
        self.assertEqual(refusal(FORK, ("turn", "b", "a"), ("turn", "b", "a")), ("edit", 1, "unknown"))

    def test_rows_of_edits(self):
        ten = (("thing", "q"), ("arrow", "q", "a"), ("bow", "c", "q"), ("turn", "b", "a"), ("no bow", "q", "c"), ("no arrow", "q", "a"), ("drop", "q"), ("bow", "c", "a"), ("hide", "b"), ("thing", "b"))
        self.assertEqual(edited(FORK, ten), Diagram(("a", "b", "c"), (("a", "c"),), (("a", "c"),)))
        with self.assertRaises(InvalidOperation):
            edited(FORK, ten + (("drop", "b"),))
        self.assertEqual(edited(BOW, (("no bow", "y", "x"),)), Diagram(("x", "y"), (("x", "y"),)))
        self.assertEqual((MAX_EDITS, MAX_STUDIES, MAX_EDITIONS, MAX_CLAIMS), (10, 8, 40, 20))

    def test_errors(self):
        bad = ODDER + tuple((edit,) for edit in NO_EDITS) + (["thing", "q"], [("thing", "q")], ("thing", "q"), (("thing", "q"), None))
        check_errors(self, edited, (FORK, (("thing", "q"),)), {0: (InvalidDiagram, NO_DIAGRAMS), 1: (InvalidOperation, bad)})


def plain_standings(editions, claim):
    """[22.2], from the pinning on, with the papers that the register gives."""
    question, verdict, pinned = claim
    rows = []
    for diagram in editions[pinned - 1:]:
        if not is_question(diagram, question):
            rows.append(("fallen", None, None))
            continue
        found = decide(diagram, question)[0]
        if found != verdict:
            rows.append(("fallen", found, "any"))
        elif not rows:
            rows.append(("stands", found, "any"))
        else:
            rows.append(("again", found, "any"))
    return rows


def check_standings(test, kept, name):
    """Words, verdicts and papers of all claims at all editions."""
    editions = [kept.diagram_at(name, at + 1) for at in range(kept.editions(name))]
    words = []
    for number, claim in enumerate(kept.claims(name), 1):
        question, verdict, pinned = claim
        ahead = None
        for at, (word, found, paper) in enumerate(plain_standings(editions, claim), pinned):
            told = kept.standing(name, number, at)
            test.assertEqual(told[1], found)
            if paper is None:
                test.assertIsNone(told[2])
            else:
                test.assertIs(is_paper(editions[at - 1], question, found, told[2]), True)
            if word == "again":
                is_kept = ahead is not None and is_paper(editions[at - 1], question, verdict, ahead[2])
                word = "stands" if is_kept else "another"
                if is_kept:
                    test.assertEqual(told[2], ahead[2])
            test.assertEqual(told[0], word)
            test.assertEqual(kept.words(name, at)[number], word)
            words.append(word)
            ahead = told
        test.assertEqual(kept.standing(name, number), ahead)
        for at in (pinned - 1, 0, -1, len(editions) + 1, True, "1", (1,)):
            with test.assertRaises(InvalidNumber) as caught:
                kept.standing(name, number, at)
            test.assertEqual(caught.exception.given, at)
    for at in range(1, len(editions) + 1):
        test.assertEqual(list(kept.words(name, at)), [n for n, claim in enumerate(kept.claims(name), 1) if claim[2] <= at])
    return words


class StandingTest(unittest.TestCase):
    def test_example(self):
        kept = Register()
        self.assertEqual([kept.begin("fever", FRONT), kept.pin("fever", TOLD), kept.edit("fever", (("hide", "z"),))], [1, 1, 2])
        self.assertEqual([kept.words("fever"), kept.standing("fever", 1)[:2]], [{1: "fallen"}, ("fallen", False)])
        self.assertEqual(kept.standing("fever", 1, 1)[:2], ("stands", True))
        self.assertEqual(kept.standing("fever", 1)[2], (("y",), ("x", "y")))

    def test_drawn_studies(self):
        words = []
        for seed in range(40):
            draw = random.Random(seed)
            size = draw.choice((3, 3, 4, 5))
            diagram = next(some_diagrams(1, size, seed, 0.5, draw.choice((0, 0, 0.3))))
            kept = Register()
            kept.begin("s", diagram)
            for _ in range(12):
                last = kept.diagram_at("s")
                questions = list(questions_of(last, draw.randint(0, 99), 2))
                for question in draw.sample(questions, min(1, len(questions))):
                    self.assertEqual(kept.pin("s", question), len(kept.claims("s")))
                    self.assertEqual(kept.claims("s")[-1], (question, decide(last, question)[0], kept.editions("s")))
                edit = draw.choice(list(all_edits(tuple(last.things) + ("q",))))
                if isinstance(plain_edit(last.things, last.arrows, last.bows, edit), Diagram):
                    self.assertEqual(kept.edit("s", (edit,)), kept.editions("s"))
            words += check_standings(self, kept, "s")
            fallen = [("s", number) for number, word in kept.words("s").items() if word == "fallen"]
            self.assertEqual(kept.fallen, tuple(fallen))
        for word in ("stands", "another", "fallen"):
            self.assertGreater(words.count(word), 20)

    def test_kept_and_other_papers_and_claims_that_stand_again(self):
        kept = Register()
        kept.begin("s", DIAMOND)
        kept.pin("s", ("free", ("b",), ("c",), ()))
        paper = kept.standing("s", 1)[2]
        self.assertEqual(paper, (("b", "<", "a", ">", "c"), {}))
        kept.edit("s", (("drop", "d"),))
        self.assertEqual(kept.standing("s", 1), ("stands", False, paper))
        kept.edit("s", (("turn", "a", "b"),))
        self.assertEqual(kept.standing("s", 1), ("another", False, (("b", ">", "a", ">", "c"), {})))
        self.assertEqual(kept.standing("s", 1, 2), ("stands", False, paper))
        kept.edit("s", (("no arrow", "a", "c"),))
        self.assertEqual(kept.standing("s", 1)[:2], ("fallen", True))
        kept.edit("s", (("drop", "c"),))
        self.assertEqual(kept.standing("s", 1), ("fallen", None, None))
        kept.edit("s", (("thing", "c"), ("arrow", "a", "c")))
        self.assertEqual(kept.standing("s", 1), ("another", False, (("b", ">", "a", ">", "c"), {})))
        kept.edit("s", (("arrow", "b", "c"),))
        self.assertEqual([kept.words("s", at)[1] for at in range(1, 8)], ["stands", "stands", "another", "fallen", "fallen", "another", "stands"])
        # A question that is none of a later edition.
        kept.begin("t", MEET)
        kept.pin("t", ("tells", ()))
        kept.edit("t", (("bow", "a", "c"),))
        self.assertEqual(kept.standing("t", 1), ("fallen", None, None))
        self.assertEqual(kept.fallen, (("t", 1),))

    def test_what_edits_cannot_fell(self):
        """[22.3]"""
        for seed, diagram in enumerate(some_diagrams(40, 4, 223, 0.5, 0.3)):
            draw = random.Random(seed)
            for words, verdict in ((("no arrow", "no bow"), True), (("arrow", "bow"), False)):
                kept = Register()
                kept.begin("s", diagram)
                for question in questions_of(diagram, seed, 3):
                    if question[0] in ("free", "adjusts", "told") and decide(diagram, question)[0] is verdict:
                        kept.pin("s", question)
                for _ in range(6):
                    last = kept.diagram_at("s")
                    edits = [edit for edit in all_edits(last.things) if edit[0] in words
                             and isinstance(plain_edit(last.things, last.arrows, last.bows, edit), Diagram)]
                    if edits:
                        kept.edit("s", (draw.choice(edits),))
                        self.assertEqual(kept.fallen, ())


class RegisterTest(unittest.TestCase):
    def setUp(self):
        self.kept = Register()
        self.kept.begin("flu", FRONT)
        self.kept.pin("flu", TOLD)

    def raises(self, error, call, *args):
        """The error of a call, which leaves the register as it was."""
        before = self.kept.twin()
        with self.assertRaises(error) as caught:
            call(*args)
        self.assertIs(type(caught.exception), error)
        self.assertEqual(self.kept, before)
        self.assertEqual([self.kept.words(name) for name in self.kept.studies], [before.words(name) for name in before.studies])
        return caught.exception

    def test_limits(self):
        for at in range(7):
            self.assertEqual(self.kept.begin(f"s{at}", FORK), 1)
        self.assertEqual(self.raises(TooMany, self.kept.begin, "more", FORK).limit, 8)
        self.raises(InvalidStudy, self.kept.begin, "flu", FORK)
        for at in range(39):
            self.assertEqual(self.kept.edit("flu", (("bow", "y", "z") if at % 2 == 0 else ("no bow", "y", "z"),)), at + 2)
        self.assertEqual(self.raises(TooMany, self.kept.edit, "flu", (("no bow", "y", "z"),)).limit, 40)
        self.assertEqual(self.raises(Refused, self.kept.edit, "flu", (("bow", "y", "z"),)).reason, ("edit", 0, "taken"))
        for at in range(19):
            self.assertEqual(self.kept.pin("flu", TOLD), at + 2)
        self.assertEqual(self.raises(TooMany, self.kept.pin, "flu", TOLD).limit, 20)
        self.raises(InvalidQuestion, self.kept.pin, "flu", ("told", ("a",), ("b",)))
        self.assertEqual(str(self.kept), "register of 8 studies, 20 claims")

    def test_errors(self):
        for name in NO_NAMES:
            self.raises(InvalidName, self.kept.begin, name, None)
            for call, more in ((self.kept.edit, (None,)), (self.kept.pin, (None,)), (self.kept.diagram_at, (0,)), (self.kept.standing, (0, 0)), (self.kept.words, (0,)),
                               (self.kept.editions, ()), (self.kept.claims, ())):
                self.assertEqual(self.raises(UnknownName, call, name, *more).asked, name)
        for value in NO_DIAGRAMS:
            self.raises(InvalidDiagram, self.kept.begin, "flu", value)
        for value in ODDER:
            self.raises(InvalidOperation, self.kept.edit, "flu", value)
            self.raises(InvalidQuestion, self.kept.pin, "flu", value)
        for value in (0, 2, -1, None, True, "1", (1,), [], {}):
            self.assertEqual(self.raises(InvalidNumber, self.kept.standing, "flu", value, 9).given, value)
            if value is not None:
                self.assertEqual(self.raises(InvalidNumber, self.kept.diagram_at, "flu", value).given, value)
                self.assertEqual(self.raises(InvalidNumber, self.kept.words, "flu", value).given, value)
                self.assertEqual(self.raises(InvalidNumber, self.kept.standing, "flu", 1, value).given, value)

    def test_deeds(self):
        self.assertEqual(self.kept.do(("begin", "new", ("a", "b"), (("a", "b"),), ())), 1)
        self.assertEqual(self.kept.do(("pin", "new", ("free", ("a",), ("b",), ()))), 1)
        self.assertEqual(self.kept.do(("edit", "new", (("no arrow", "a", "b"),))), 2)
        self.assertEqual(self.kept.do(("pin", "new", ("free", ("a",), ("b",), ()))), 2)
        self.assertEqual(self.kept.words("new"), {1: "fallen", 2: "stands"})
        other = Register()
        other.begin("new", Diagram(("a", "b"), (("a", "b"),)))
        other.pin("new", ("free", ("a",), ("b",), ()))
        other.edit("new", (("no arrow", "a", "b"),))
        other.pin("new", ("free", ("a",), ("b",), ()))
        self.assertEqual([other.claims("new"), other.diagram_at("new")], [self.kept.claims("new"), self.kept.diagram_at("new")])
        for value in ODDER + (("begin",), ("begin", "s", ("a",), ()), ("begin", "s", ("a",), (), (), ()), ("edit", "flu"), ("edit", "flu", (), ()), ("pin", "flu"), ("pin", "flu", TOLD, ()),
                              ["pin", "flu", TOLD], ("drop", "flu", ()), (["pin"], "flu", TOLD), ("Pin", "flu", TOLD), (None, "flu", TOLD)):
            self.raises(InvalidOperation, self.kept.do, value)
        # The errors of the diagram stand ahead of those of the method.
        self.raises(InvalidDiagram, self.kept.do, ("begin", None, ("b", "a"), (), ()))
        self.raises(InvalidDiagram, self.kept.do, ("begin", "flu", ("a", "b"), (("a", "b"), ("b", "a")), ()))
        self.raises(InvalidName, self.kept.do, ("begin", "Flu", ("a",), (), ()))
        self.raises(InvalidStudy, self.kept.do, ("begin", "flu", ("a",), (), ()))
        self.raises(UnknownName, self.kept.do, ("edit", ["flu"], None))
        self.raises(InvalidOperation, self.kept.do, ("edit", "flu", None))
        self.raises(InvalidQuestion, self.kept.do, ("pin", "flu", None))

    def test_twins_change_by_themselves(self):
        twin = self.kept.twin()
        self.assertTrue(twin == self.kept and not twin != self.kept)
        twin.edit("flu", (("hide", "z"),))
        self.assertEqual([self.kept.words("flu"), twin.words("flu"), twin == self.kept], [{1: "stands"}, {1: "fallen"}, False])
        self.kept.begin("more", FORK)
        self.assertEqual([twin.studies, self.kept.studies], [("flu",), ("flu", "more")])
        self.assertFalse(any(self.kept == value for value in ODDER))
        unlike = Register()
        unlike.begin("flu", FRONT)
        self.assertFalse(unlike == self.kept)
        unlike.pin("flu", TOLD)
        self.assertFalse(unlike == self.kept)
        unlike.begin("more", FORK)
        self.assertTrue(unlike == self.kept)

    def test_properties_and_words(self):
        self.kept.begin("ann", FORK)
        self.assertEqual((self.kept.studies, len(self.kept), str(self.kept)), (("ann", "flu"), 2, "register of 2 studies, 1 claims"))
        self.assertEqual([value in self.kept for value in ("flu", "ann", "q", None, [], {}, ("flu",), 1)], [True, True] + [False] * 6)
        with self.assertRaises(TypeError):
            iter(self.kept)
        self.assertEqual((Register().studies, Register().fallen, len(Register()), str(Register())), ((), (), 0, "register of 0 studies, 0 claims"))
        self.assertEqual((self.kept.editions("flu"), self.kept.claims("flu"), self.kept.claims("ann")), (1, ((TOLD, True, 1),), ()))
        self.assertEqual((self.kept.diagram_at("flu"), self.kept.diagram_at("flu", 1)), (FRONT, FRONT))

    def test_no_state_is_shared(self):
        self.kept.pin("flu", ("free", ("x",), ("y",), ()))
        told = self.kept.standing("flu", 2)
        told[2][1]["q"] = 1
        self.assertNotIn("q", self.kept.standing("flu", 2)[2][1])
        self.kept.words("flu").clear()
        self.assertEqual(len(self.kept.words("flu")), 2)


if __name__ == "__main__":
    unittest.main()
