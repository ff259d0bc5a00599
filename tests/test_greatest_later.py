"""The greatest inputs that the document lets are answered within some seconds (stages 17 to 25)."""
import itertools
import random
import time
import unittest
from fractions import Fraction

from seenanddone.ask.questions import decide, is_paper, is_question, is_shown, show_worlds
from seenanddone.deed.deeds import done
from seenanddone.house.hands import Hand, House
from seenanddone.house.log import read_log, write_log
from seenanddone.house.register import Register
from seenanddone.house.views import View, hiding_lots, lifted
from seenanddone.look.looks import best_policy, is_best_policy, paying_world, worth_of
from seenanddone.mix.instrument import (
    broken_sum, effect_bounds, greatest_effect, is_greatest_effect, is_least_effect, least_effect, made_by, mix_of)
from seenanddone.part.parting import colours, fewest_lots, left_by, parted_arrows, unparted
from seenanddone.same.pictures import picture_of
from seenanddone.straight.treks import (
    Straight, are_treks_apart, erring_straight, is_trek_cut, single_door, trek_cut, treks_apart)
from seenanddone.text.shell import Shell
from seenanddone.text.texts import read_data, read_question, write_data, write_question
from seenanddone.web.diagrams import Diagram
from seenanddone.web.hiding import projected
from seenanddone.world.worlds import even_world
from tests.helper import lots_within
from tests.test_greatest import ALL, FOURS, PAIRS, ROW, SIX, TEN, great_world

SECONDS = 60
BOTH = Diagram(SIX, PAIRS, PAIRS)


class GreatestTest(unittest.TestCase):
    def setUp(self):
        self.start = time.perf_counter()

    def tearDown(self):
        self.assertLess(time.perf_counter() - self.start, SECONDS)

    def test_straight(self):
        straight = Straight(BOTH, dict.fromkeys(PAIRS, -99), dict.fromkeys(PAIRS, (99, 98)), dict.fromkeys(SIX, 9999))
        self.assertEqual(straight.rank(SIX, SIX), 6)
        straight.coefficient("a", "f", SIX[1:5])
        for x, y in itertools.product((SIX, SIX[:3], SIX[3:]), repeat=2):
            treks = treks_apart(BOTH, x, y)
            self.assertIs(are_treks_apart(BOTH, x, y, treks), True)
            self.assertIs(is_trek_cut(BOTH, x, y, trek_cut(BOTH, x, y)), True)
            self.assertLessEqual(straight.rank(x, y), len(treks))
        for a, b in PAIRS:
            rest = tuple(t for t in SIX if t not in (a, b))
            self.assertIs(single_door(BOTH, a, b, rest), False)
            self.assertIsNotNone(erring_straight(BOTH, a, b, rest))

    def test_parting(self):
        picture = picture_of(ALL)
        lots = (("a", "b", "c"),) * 8
        self.assertEqual((len(fewest_lots(picture)), len(colours(picture)), unparted(picture, lots)[0]), (3, 6, ("a", "b")))
        self.assertEqual([len(left_by(ALL, lots)), len(left_by(ALL, ())), len(parted_arrows(ALL, lots))], [36, 720, 9])

    def test_instrument(self):
        draw = random.Random(1)
        for _ in range(15):
            parts = []
            for _ in (0, 1):
                first, second = draw.randint(10 ** 14, 3 * 10 ** 14), draw.randint(10 ** 14, 3 * 10 ** 14)
                half, rest = Fraction(draw.randint(1, first - 1), first) / 2, Fraction(draw.randint(1, second - 1), second) / 2
                parts += [half, Fraction(1, 2) - half, rest, Fraction(1, 2) - rest]
            outcomes = {t: (p.numerator, p.denominator) for t, p in zip(itertools.product((0, 1), repeat=3), parts)}
            if broken_sum(outcomes) is None:
                self.assertIs(is_least_effect(outcomes, least_effect(outcomes)), True)
                self.assertIs(is_greatest_effect(outcomes, greatest_effect(outcomes)), True)
                self.assertEqual(made_by(mix_of(outcomes)), outcomes)
                effect_bounds(outcomes)

    def test_looks(self):
        world = great_world(TEN, FOURS, (2,) * 8 + (1,) * 2)
        looks = SIX[:4]
        self.assertIs(is_best_policy(world, "e", "f", looks, best_policy(world, "e", "f", looks)), True)
        self.assertGreaterEqual(worth_of(world, "e", "f", looks[:3], "d")[0], 0)
        sixteen = even_world(Diagram(("d", "g", "w"), (("d", "g"), ("w", "g"))), 16)
        self.assertEqual(worth_of(sixteen, "d", "g", (), "w"), (0, 1))
        late = Diagram(SIX, tuple(pair for pair in PAIRS if pair != ("a", "e")), PAIRS)
        self.assertEqual(worth_of(paying_world(late, "e", "f", "a"), "e", "f", ("b", "c", "d"), "a"), (1, 2))

    def test_questions(self):
        turned = tuple(sorted(pair[::-1] for pair in PAIRS))
        lots = (("a", "b", "c"), ("a", "d")) * 4
        for diagram in (ALL, BOTH, TEN, Diagram(SIX, ROW, ROW), Diagram(SIX, ROW)):
            questions = [("same", turned), ("same", ROW), ("tells", lots), ("tells", lots[:1] * 8), ("told", ("a",), ("f",)), ("told", ("a", "b"), SIX[2:]), ("told", (), SIX)]
            questions += [("pays",) + row for row in itertools.permutations(SIX, 3)]
            for z in lots_within(SIX[1:5])[::3]:
                questions += [("free", ("a",), ("f",), z), ("adjusts", ("a",), ("f",), z), ("adjusts", ("f",), ("a",), z)]
            for question in questions:
                if is_question(diagram, question):
                    verdict, paper = decide(diagram, question)
                    self.assertIs(is_paper(diagram, question, verdict, paper), True)
                    self.assertIs(is_paper(diagram, question, not verdict, paper), False)
                    self.assertIs(is_shown(diagram, question, show_worlds(diagram, question)), True)
        # Worlds of the greatest size are judged, too.
        for diagram, question, sizes in ((TEN, ("free", ("a",), ("f",), ()), (2,) * 8 + (1,) * 2), (ALL, ("same", ROW), ())):
            self.assertIs(is_shown(diagram, question, (great_world(diagram, FOURS, sizes),)), True)

    def test_lifted_worlds(self):
        for seen in (SIX, SIX[1:], SIX[:5], SIX[::2] + ("f",)):
            base = projected(BOTH, seen)
            sizes = (2, 2, 2, 2)[:len(base.bows)] + (1,) * (len(base.bows) - 4)
            world = great_world(base, dict.fromkeys(seen, 3), sizes)
            whole = lifted(BOTH, seen, world)
            self.assertEqual(whole.seen.summed(seen), world.seen)
            self.assertEqual(done(whole, {seen[-2]: 1}).summed(seen), done(world, {seen[-2]: 1}))
        self.assertEqual(hiding_lots(ALL, ("a",), ("f",), SIX[1:5]), ())
        hidden = Diagram(SIX, tuple((a, b) for a, b in PAIRS if (a, b) != ("a", "b")), ())
        self.assertEqual(len(hiding_lots(hidden, ("c",), ("f",), ("a", "b", "d", "e"))), 2)
        view = View(BOTH, SIX[:5])
        for question in (("told", ("a",), ("e",)), ("free", ("a",), ("e",), SIX[1:4]), ("adjusts", ("a",), ("e",), SIX[1:4])):
            self.assertIs(view.is_paper(question, *view.decide(question)), True)

    def house(self):
        """A house of as many studies, claims, editions and commits as there can be, all of six things."""
        draw = random.Random(1)
        deeds = [("begin", f"s{at}", SIX, PAIRS, PAIRS if at % 2 else ()) for at in range(8)]
        lots = lots_within(SIX, 1)
        for at in range(20):
            z = draw.choice(lots_within(SIX[1:5]))
            free, adjusts, tells = ("free", ("a",), ("f",), z), ("adjusts", ("e",), ("f",), tuple(t for t in z if t != "e")), ("tells", tuple(draw.choice(lots) for _ in range(at % 8)))
            same = ("same", tuple(sorted(pair[::-1] if pair[1] == SIX[at % 5 + 1] and at % 3 else pair for pair in PAIRS)) if at % 5 == 4 else PAIRS)
            for study in range(8):
                kinds = (free, adjusts, ("told", ("a",), ("f",)), ("told", ("a", "b"), ("e", "f"))) + ((tells, same) if study % 2 == 0 else ())
                deeds.append(("pin", f"s{study}", kinds[at % len(kinds)]))
        for at in range(39):
            for study in range(8):
                pair = PAIRS[(at // 2 * 4 + study) % 15]
                deeds.append(("edit", f"s{study}", (("no arrow" if at % 2 == 0 else "arrow",) + pair,)))
        house = House()
        for at in range(0, len(deeds), 8):
            house.commit_regardless("ann", tuple(deeds[at:at + 8]))
        return house

    def test_houses(self):
        house = self.house()
        self.assertEqual(str(house.at()), "register of 8 studies, 160 claims")
        self.assertEqual([house.at().editions(name) for name in house.at().studies], [40] * 8)
        text = write_log(house)
        again = read_log(text)
        self.assertEqual([again.at().words(name) for name in again.at().studies], [house.at().words(name) for name in house.at().studies])
        hand = Hand(house, "bob")
        self.assertEqual(hand.decide("s0", ("told", ("a",), ("f",)))[0], True)

    def test_shell(self):
        shell = Shell(House())
        things = " ".join(SIX) + ": " + ", ".join([f"{a}>{b}" for a, b in PAIRS] + [f"{a}-{b}" for a, b in PAIRS])
        texts = (f"begin s {things}",) + ("pin s told a f",) * 9 + ("commit",) + ("why s free a f -", "see s a+b+f told a f") * 40
        self.assertEqual(len(shell.run(texts)), 91)
        question = ("tells", (SIX,) * 8)
        self.assertEqual(read_question(write_question(question)), question)
        value = {("x" * 40, f"y{at:05}"): (at, None) for at in range(700)}
        self.assertEqual(read_data(write_data(value)), value)
        kept = Register()
        kept.begin("s", ALL)
        for _ in range(20):
            kept.pin("s", ("tells", (("a", "b", "c"), ("a", "d"))))
        for at in range(39):
            kept.edit("s", (("turn",) + ((("e", "f") if at % 2 == 0 else ("f", "e"))),))
        self.assertEqual(len(kept.words("s", 40)), 20)


if __name__ == "__main__":
    unittest.main()
