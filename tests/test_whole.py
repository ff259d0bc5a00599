"""What the document promises over the whole program: [0.14], [0.21], and some of what is not true [0.22]."""
import itertools
import random
import unittest

from seenanddone.ask.questions import decide, is_paper, is_question
from seenanddone.house.hands import Hand, House
from seenanddone.house.log import read_log, write_log
from seenanddone.house.register import Register
from seenanddone.house.views import View, lifted
from seenanddone.text.shell import Shell
from seenanddone.text.texts import read_data, read_diagram, read_question, write_data, write_diagram, write_question
from seenanddone.web.diagrams import Diagram
from seenanddone.web.hiding import projected
from tests.helper import BOW, FORK, FRONT, MEET, all_diagrams, lots_within, some_diagrams, some_world
from tests.test_hands import commit_despite, some_house
from tests.test_questions import cases, questions_of


def told_by(kept):
    """All words and standings of a register, edition by edition."""
    return [
        (name, kept.editions(name), kept.claims(name), [kept.words(name, at + 1) for at in range(kept.editions(name))],
         [kept.standing(name, number) for number in range(1, len(kept.claims(name)) + 1)])
        for name in kept.studies]


class PaperTest(unittest.TestCase):
    def test_just_one_of_two_papers(self):
        """[0.14]: of many values that could be papers only such are taken as are papers for the one verdict."""
        met = {}
        for diagram, question in itertools.islice(cases(), 0, None, 2):
            verdict, paper = decide(diagram, question)
            self.assertEqual([is_paper(diagram, question, value, paper) for value in (True, False)], [verdict, not verdict])
            papers = met.setdefault((question[0], diagram.things), [])
            for other in papers[-12:]:
                self.assertIs(is_paper(diagram, question, not verdict, other), False)
                is_paper(diagram, question, verdict, other)
            papers.append(paper)

    def test_papers_hang_on_nothing_but_the_diagram(self):
        for diagram, question in itertools.islice(cases(), 0, None, 4):
            again = read_diagram(write_diagram(diagram))
            asked = read_question(write_question(question))
            verdict, paper = decide(diagram, question)
            self.assertEqual(decide(again, asked), (verdict, paper))
            self.assertIs(is_paper(again, asked, verdict, read_data(write_data(paper))), True)


class EditionTest(unittest.TestCase):
    """[0.21]: verdicts hang on the edition alone."""

    def test_log_undoing_and_text(self):
        for seed in range(10):
            house = some_house(seed)
            kept = house.at()
            self.assertEqual(told_by(read_log(write_log(house)).at()), told_by(kept))
            house.back(4)
            house.forward(2)
            house.forward(2)
            self.assertEqual(told_by(house.at()), told_by(kept))
            for name in kept.studies:
                last = read_diagram(write_diagram(kept.diagram_at(name)))
                for number, (question, _, _) in enumerate(kept.claims(name), 1):
                    told = kept.standing(name, number)
                    right = decide(last, question)[0] if is_question(last, question) else None
                    self.assertEqual(told[1], right)

    def test_the_order_of_commits(self):
        for seed in range(15):
            draw = random.Random(seed)
            diagrams = list(some_diagrams(2, 4, seed, 0.5, 0.3))
            deeds = []
            for name, diagram in zip(("s", "t"), diagrams):
                own = [("begin", name, diagram.things, diagram.arrows, diagram.bows)]
                own += [("pin", name, question) for question in draw.sample(list(questions_of(diagram, seed, 2)), 3)]
                own.append(("edit", name, (("drop", draw.choice(diagram.things)),)))
                deeds.append(own)
            registers = []
            for turned in (1, -1):
                house = House()
                for own in deeds[::turned]:
                    hand = Hand(house, "ann")
                    for deed in own:
                        hand.do(deed)
                    self.assertIsNotNone(commit_despite(hand))
                registers.append(house.at())
            one_by_one = Register()
            for pair in zip(*deeds):
                for deed in pair:
                    one_by_one.do(deed)
            self.assertEqual(told_by(registers[0]), told_by(registers[1]))
            self.assertEqual(told_by(registers[0]), told_by(one_by_one))

    def test_what_is_said_and_what_is_done(self):
        for seed in range(10):
            house = some_house(seed, 5)
            shell = Shell(House())
            for _, author, deeds in house.commits:
                texts = [f"as {author}", "drop"]
                for word, name, *parts in deeds:
                    if word == "begin":
                        texts.append(f"begin {name} {write_diagram(Diagram(*parts))}")
                    elif word == "edit":
                        texts.append(f"edit {name} {' '.join(parts[0][0])}")
                    else:
                        texts.append(f"pin {name} {write_question(parts[0])}")
                answers = shell.run(tuple(texts))
                self.assertFalse(any(answer.startswith(("wrong", "refused", "invalid")) for answer in answers), answers)
                hand = shell._hands[author]
                commit_despite(hand)
            self.assertEqual(shell._house, house)
            self.assertEqual(told_by(shell._house.at()), told_by(house.at()))


class ViewerTest(unittest.TestCase):
    def test_what_viewers_are_answered(self):
        for seed, diagram in enumerate(some_diagrams(15, 4, 261, 0.5, 0.3)):
            for seen in lots_within(diagram.things, 2)[::2]:
                base = projected(diagram, seen)
                view = View(diagram, seen)
                for question in list(questions_of(base, seed, 2))[:5]:
                    self.assertEqual(view.decide(question), decide(base, question))
                world = some_world(base, seed, (2,), (1, 2) if len(base.bows) < 3 else (1,))
                self.assertEqual(lifted(diagram, seen, world).seen.summed(seen), world.seen)


class NotTrueTest(unittest.TestCase):
    """[0.22]: none of these is true."""

    def test_seeing_more_does_not_bar_more(self):
        self.assertEqual([decide(MEET, ("free", ("a",), ("c",), z))[0] for z in ((), ("b",))], [True, False])

    def test_what_is_not_behind_a_deed_may_not_be_adjusted_for(self):
        letter = Diagram(("a", "b", "m", "x", "y"), (("a", "m"), ("a", "x"), ("b", "m"), ("b", "y"), ("x", "y")))
        self.assertEqual([decide(letter, ("adjusts", ("x",), ("y",), z))[0] for z in ((), ("m",), ("a", "m"))], [True, False, True])

    def test_told_on_each_is_not_told_on_both(self):
        diagram = Diagram(("x", "y", "z"), (("x", "y"),), (("x", "z"), ("y", "z")))
        self.assertEqual([decide(diagram, ("told", ("x",), y))[0] for y in (("y",), ("z",), ("y", "z"))], [True, True, False])

    def test_told_is_not_told_by_adjusting(self):
        self.assertIs(decide(FRONT, ("told", ("x",), ("y",)))[0], True)
        self.assertFalse(any(decide(FRONT, ("adjusts", ("x",), ("y",), z))[0] for z in ((), ("z",))))

    def test_what_two_viewers_cannot_tell_they_may_tell_together(self):
        diagram = next(
            d for d in all_diagrams(("a", "x", "y")) if d.arrows and d.bows
            and is_question(d, ("told", ("x",), ("y",))) and decide(d, ("told", ("x",), ("y",)))[0]
            and not View(d, ("x", "y")).decide(("told", ("x",), ("y",)))[0])
        pooled = View(diagram, ("x", "y")).pooled(View(diagram, ("a",)))
        self.assertIs(pooled.decide(("told", ("x",), ("y",)))[0], True)

    def test_the_same_ties_are_not_the_same_sayings(self):
        self.assertEqual([FORK.ties == MEET.ties, decide(FORK, ("same", MEET.arrows))[0], decide(BOW, ("told", ("x",), ("y",)))[0]], [True, False, False])


if __name__ == "__main__":
    unittest.main()
