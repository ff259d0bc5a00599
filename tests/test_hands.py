"""Stage 24: houses, hands, and logs."""
import random
import unittest

from seenanddone.ask.questions import decide
from seenanddone.errors import (
    InvalidName, InvalidNumber, InvalidOperation, InvalidQuestion, InvalidStudy, NothingToUndo, ParseError, Refused, TooMany,
    UnknownName)
from seenanddone.house.hands import MAX_COMMITS, MAX_DEEDS, Hand, House
from seenanddone.house.log import read_log, write_log
from seenanddone.house.register import Register
from seenanddone.web.diagrams import Diagram
from tests.helper import FRONT, ODDER, TOO_LONG, check_errors
from tests.test_register import NO_NAMES, all_edits
from tests.test_questions import questions_of

BEGIN = ("begin", "flu", ("x", "y", "z"), (("x", "z"), ("z", "y")), (("x", "y"),))
PIN = ("pin", "flu", ("told", ("x",), ("y",)))
HIDE = ("edit", "flu", (("hide", "z"),))
NO_COUNTS = (0, -1, True, False, None, "1", (), [], {}, TOO_LONG)


def other(name):
    return ("begin", name, ("a", "b"), (("a", "b"),), ())


def edit(name, *edits):
    return ("edit", name, edits)


def plain_at(commits):
    """The register behind the deeds of some commits."""
    kept = Register()
    for _, _, deeds in commits:
        for deed in deeds:
            kept.do(deed)
    return kept


def refusal(test, call, *args, **named):
    with test.assertRaises(Refused) as caught:
        call(*args, **named)
    return caught.exception.reason


def some_deed(draw, kept):
    """A deed that can be done to a register, or perhaps not."""
    names = list(kept.studies)
    if not names or draw.random() < 0.2:
        return ("begin", draw.choice(("s", "t", "u")), ("a", "b", "c"), (("a", "b"),), draw.choice(((), (("b", "c"),))))
    name = draw.choice(names)
    diagram = kept.diagram_at(name)
    if draw.random() < 0.4:
        return ("pin", name, draw.choice(list(questions_of(diagram, draw.randint(0, 9), 2)) or [("told", (), diagram.things[:1])]))
    return ("edit", name, (draw.choice(list(all_edits(diagram.things[:3] + ("q",)))),))


def some_house(seed, many=8):
    """A house of drawn commits, some of them undone."""
    draw = random.Random(seed)
    house = House()
    while len(house.commits) < many:
        kept, deeds = house.at(), []
        for _ in range(draw.randint(1, 5)):
            deed = some_deed(draw, kept)
            try:
                kept.do(deed)
                deeds.append(deed)
            except (ValueError, ArithmeticError, OverflowError, KeyError):
                pass
        if deeds:
            house.commit(draw.choice(("ann", "bob")), tuple(deeds), despite=tuple(sorted(set(kept.fallen)))[:20])
    return house


def commit_despite(hand):
    """The number of a commit despite all that falls by it, or None if what the hand has read is another now."""
    fallen = ()
    while True:
        try:
            return hand.commit(despite=fallen)
        except Refused as error:
            if error.reason[0] == "read":
                return None
            fallen = tuple(sorted(fallen + (error.reason[1:],)))


class HouseTest(unittest.TestCase):
    def test_commits_and_undoing(self):
        house = House()
        self.assertEqual((house.present, house.commits, house.undone, len(house), str(house)), (0, (), (), 0, "house of 0 commits, 0 undone"))
        self.assertEqual([house.commit("ann", (BEGIN, PIN)), house.commit("bob", (other("q"),)), house.commit("ann", (other("r"), other("s")))], [1, 2, 3])
        self.assertEqual(house.commits, ((1, "ann", (BEGIN, PIN)), (2, "bob", (other("q"),)), (3, "ann", (other("r"), other("s")))))
        self.assertEqual([house.back(), house.back(2), house.present, len(house.undone)], [2, 0, 0, 3])
        with self.assertRaises(NothingToUndo) as caught:
            house.back()
        self.assertEqual(caught.exception.many, 1)
        self.assertEqual([house.forward(), house.forward(2), house.undone], [1, 3, ()])
        with self.assertRaises(NothingToUndo) as caught:
            house.forward(4)
        self.assertEqual(caught.exception.many, 4)
        with self.assertRaises(NothingToUndo):
            house.back(4)
        house.back(2)
        self.assertEqual((str(house), house.commits, [number for number, _, _ in house.undone]), ("house of 1 commits, 2 undone", ((1, "ann", (BEGIN, PIN)),), [2, 3]))
        self.assertEqual([house.commit("cid", (other("z"),)), house.undone, house.at().studies], [2, (), ("flu", "z")])

    def test_registers_at_all_numbers(self):
        for seed in range(12):
            house = some_house(seed)
            commits = house.commits
            self.assertEqual(house.at(), house.at(house.present))
            for number in range(len(commits) + 1):
                kept = house.at(number)
                right = plain_at(commits[:number])
                self.assertEqual(kept, right)
                self.assertEqual([kept.words(name) for name in kept.studies], [right.words(name) for name in right.studies])
                # It changes by itself.
                kept.begin("new", FRONT)
                self.assertEqual(house.at(number), right)
            house.back(3)
            for number in (len(house) + 1, -1, True, "1", None):
                if number is not None:
                    with self.assertRaises(InvalidNumber) as caught:
                        house.at(number)
                    self.assertEqual(caught.exception.given, number)
            self.assertEqual(house.at(), plain_at(commits[:-3]))
            house.forward(2)
            self.assertEqual((house.at(), house.commits, house.undone), (plain_at(commits[:-1]), commits[:-1], commits[-1:]))

    def test_fallen_claims(self):
        house = House()
        house.commit("ann", (BEGIN, PIN, ("pin", "flu", ("free", ("x",), ("y",), ())), PIN))
        self.assertEqual(refusal(self, house.commit, "ann", (HIDE,)), ("fallen", "flu", 1))
        self.assertEqual(refusal(self, house.commit, "ann", (HIDE,), despite=(("flu", 1),)), ("fallen", "flu", 3))
        self.assertEqual(refusal(self, house.commit, "ann", (HIDE,), despite=(("a", 1), ("flu", 3))), ("fallen", "flu", 1))
        self.assertEqual(len(house), 1)
        self.assertEqual(house.commit("ann", (HIDE,), despite=(("flu", 1), ("flu", 3), ("qq", -5))), 2)
        # What is fallen already is not asked for again; what falls and stands again within a commit does not fall.
        self.assertEqual(house.commit("bob", (edit("flu", ("thing", "q")),)), 3)
        house.commit("bob", (other("s"), ("pin", "s", ("told", ("a",), ("b",)))))
        self.assertEqual(house.commit("bob", (edit("s", ("bow", "a", "b")), edit("s", ("no bow", "a", "b")))), 5)
        house.commit("bob", (other("t"), ("pin", "t", ("told", ("a",), ("b",)))))
        both = (edit("t", ("bow", "a", "b")), edit("s", ("bow", "a", "b")))
        self.assertEqual(refusal(self, house.commit, "bob", both), ("fallen", "s", 1))
        self.assertEqual(refusal(self, house.commit, "bob", both, despite=(("s", 1),)), ("fallen", "t", 1))

    def test_a_hundred_commits_and_ten_deeds(self):
        self.assertEqual((MAX_COMMITS, MAX_DEEDS), (100, 10))
        house = House()
        house.commit("ann", (other("s"),))
        for number in range(2, 101):
            self.assertEqual(house.commit("ann", (edit("s", ("bow", "a", "b") if number % 2 == 0 else ("no bow", "a", "b")),) if number < 40 else (
                ("pin", "s", ("told", ("a",), ("b",))),) if number < 60 else (other("t"),) if number == 60 else (edit("t", ("turn", "a", "b") if number % 2 else ("turn", "b", "a")),)
                if number < 100 else (other("u"),)), number)
        with self.assertRaises(TooMany) as caught:
            house.commit("ann", (None,))
        self.assertEqual((caught.exception.limit, len(house)), (100, 100))
        house.back()
        self.assertEqual(house.commit("ann", (other("w"),)), 100)
        ten = House()
        deeds = tuple(other(f"s{at}") for at in range(8)) + (edit("s1", ("turn", "a", "b")), edit("s2", ("drop", "a")))
        self.assertEqual(ten.commit("ann", deeds), 1)
        for value in (deeds + (edit("s1", ("drop", "a")),), ()):
            with self.assertRaises(InvalidOperation):
                ten.commit("ann", value)

    def test_order_of_errors(self):
        house = House()
        house.commit("ann", (BEGIN, PIN))
        kept = house.at()
        bad_despite = ODDER[0:3] + ((("flu", 1), ("flu", 1)), (("flu", 2), ("flu", 1)), [("flu", 1)], (("flu",),), (("flu", "1"),), (("flu", True),), (("Flu", 1),), (("flu", 1, 1),),
                                    (["flu", 1],), tuple((f"s{at:02}", 1) for at in range(21)), (("flu", TOO_LONG),), ("flu", 1))
        good = (HIDE,)
        check_errors(self, house.commit, ("ann", good), {
            0: (InvalidName, NO_NAMES), 1: (InvalidOperation, ODDER[:9] + ((), [HIDE], (HIDE,) * 11, HIDE[0])), "despite": (InvalidOperation, bad_despite)}, {"despite": ()})
        for deeds, error in (((None,), InvalidOperation), ((("pin", "q", None),), UnknownName), ((PIN, BEGIN), InvalidStudy), ((("pin", "flu", None), None), InvalidQuestion)):
            with self.assertRaises(error):
                house.commit("ann", deeds)
        self.assertEqual(refusal(self, house.commit, "ann", (HIDE, HIDE)), ("edit", 0, "unknown"))
        self.assertEqual((house.at(), len(house)), (kept, 1))
        many = tuple((f"s{at:02}", 1) for at in range(20))
        self.assertEqual(refusal(self, house.commit, "ann", good, despite=many), ("fallen", "flu", 1))
        for call in (house.back, house.forward):
            for value in NO_COUNTS:
                with self.assertRaises(InvalidNumber) as caught:
                    call(value)
                self.assertEqual(caught.exception.given, value)

    def test_equality_and_words(self):
        one, two = House(), House()
        self.assertTrue(one == two and not one != two)
        one.commit("ann", (BEGIN,))
        self.assertFalse(one == two)
        two.commit("bob", (BEGIN,))
        self.assertFalse(one == two)
        two.back()
        two.commit("ann", (BEGIN,))
        self.assertTrue(one == two)
        one.commit("ann", (other("s"),))
        one.back()
        self.assertFalse(one == two)
        two.commit("ann", (other("s"),))
        self.assertFalse(one == two)
        two.back()
        self.assertTrue(one == two)
        self.assertFalse(any(one == value for value in ODDER))
        with self.assertRaises(TypeError):
            iter(one)


class HandTest(unittest.TestCase):
    def setUp(self):
        self.house = House()
        self.house.commit("ann", (BEGIN, PIN, other("s")))

    def test_a_hand(self):
        hand = Hand(self.house, "bob")
        self.assertEqual((hand.author, hand.base, hand.deeds, hand.has_read, len(hand), str(hand)), ("bob", 1, (), (), 0, "hand of bob on 1, 0 deeds"))
        self.assertEqual([hand.do(edit("s", ("turn", "a", "b"))), hand.do(("pin", "s", ("told", ("a",), ("b",)))), hand.do(other("t"))], [2, 1, 1])
        self.assertEqual((len(hand), hand.has_read, str(hand)), (3, ("s",), "hand of bob on 1, 3 deeds"))
        self.assertEqual(self.house.at().studies, ("flu", "s"))
        self.assertEqual(hand.decide("flu", PIN[2]), decide(FRONT, PIN[2]))
        self.assertEqual(hand.decide("s", ("told", ("a",), ("b",))), decide(Diagram(("a", "b"), (("b", "a"),)), ("told", ("a",), ("b",))))
        self.assertEqual(hand.decide("t", ("told", ("a",), ("b",)))[0], True)
        self.assertEqual(hand.has_read, ("flu", "s"))
        deeds = hand.deeds
        self.assertEqual([hand.commit(), hand.base, hand.deeds, hand.has_read, len(hand)], [2, 2, (), (), 0])
        self.assertEqual(self.house.commits[1], (2, "bob", deeds))
        # The studies of the new base are there for what comes next.
        hand.decide("t", ("told", ("a",), ("b",)))
        self.assertEqual(hand.has_read, ("t",))
        with self.assertRaises(TypeError):
            iter(hand)

    def test_what_has_no_effect(self):
        hand = Hand(self.house, "bob")
        for error, call in ((UnknownName, lambda: hand.decide("q", None)), (UnknownName, lambda: hand.decide(["flu"], None)), (InvalidQuestion, lambda: hand.decide("flu", None)),
                            (InvalidOperation, lambda: hand.do(None)), (UnknownName, lambda: hand.do(("pin", "q", None))), (InvalidQuestion, lambda: hand.do(("pin", "flu", None))),
                            (Refused, lambda: hand.do(edit("flu", ("drop", "q"))))):
            with self.assertRaises(error):
                call()
            self.assertEqual((hand.deeds, hand.has_read), ((), ()))
        for at in range(10):
            hand.do(edit("s", ("turn", "a", "b") if at % 2 == 0 else ("turn", "b", "a")))
        kept = hand.deeds
        with self.assertRaises(TooMany) as caught:
            hand.do(edit("flu", ("hide", "z")))
        self.assertEqual((caught.exception.limit, hand.deeds, hand.has_read), (10, kept, ("s",)))
        self.assertEqual(hand.decide("flu", PIN[2])[0], True)
        with self.assertRaises(UnknownName):
            hand.do(("pin", "q", None))

    def test_refused_commits(self):
        hand = Hand(self.house, "bob")
        self.assertEqual(refusal(self, hand.commit), ("empty",))
        with self.assertRaises(InvalidOperation):
            hand.commit(despite=[])
        hand.decide("flu", PIN[2])
        self.assertEqual(refusal(self, hand.commit), ("empty",))
        hand.do(other("new"))
        self.house.commit("ann", (other("t"), edit("t", ("drop", "a"))))
        self.house.commit("ann", (other("u"), edit("s", ("drop", "a")), edit("flu", ("thing", "q")), edit("s", ("thing", "a"))))
        self.house.commit("ann", (edit("flu", ("drop", "q")),))
        self.assertEqual(refusal(self, hand.commit), ("read", 3, "flu"))
        hand.decide("s", ("told", (), ("a",)))
        self.assertEqual(refusal(self, hand.commit), ("read", 3, "s"))
        self.house.back(2)
        self.assertEqual(hand.commit(), 3)
        self.assertEqual((hand.base, self.house.undone), (3, ()))

    def test_adrift(self):
        hand = Hand(self.house, "bob")
        hand.do(other("new"))
        self.house.back()
        self.assertEqual(refusal(self, hand.commit), ("adrift", 1))
        self.house.commit("ann", (other("flu"),))
        self.assertEqual(refusal(self, hand.commit), ("adrift", 1))
        hand.decide("flu", PIN[2])
        self.assertEqual(refusal(self, hand.commit), ("adrift", 1))
        # Commits that come and go behind the base do not matter, and equal ones are as good.
        self.house.back()
        self.house.commit("ann", (BEGIN, PIN, other("s")))
        self.assertEqual(hand.commit(), 2)
        empty = Hand(House(), "bob")
        empty.do(other("new"))
        self.assertEqual((empty.base, empty.commit()), (0, 1))

    def test_what_the_house_refuses(self):
        one, two = Hand(self.house, "bob"), Hand(self.house, "cid")
        one.do(other("new"))
        two.do(other("new"))
        self.assertEqual(one.commit(), 2)
        # Both have begun a study of one name: it was not there at the base, so neither has read it.
        with self.assertRaises(InvalidStudy):
            two.commit()
        self.assertEqual((len(two), two.base), (1, 1))
        three = Hand(self.house, "dan")
        three.do(HIDE)
        self.assertEqual(refusal(self, three.commit), ("fallen", "flu", 1))
        self.assertEqual([three.commit(despite=(("flu", 1),)), self.house.at().fallen], [3, (("flu", 1),)])

    def test_two_hands_on_one_base(self):
        """[24.3]"""
        both = neither = 0
        for seed in range(150):
            registers, fits = [], []
            for turned in (False, True):
                house = some_house(seed, 5)
                hands = [Hand(house, name) for name in ("ann", "bob")]
                inner = random.Random(seed)
                for hand, name in zip(hands, inner.sample(("s", "t", "u"), 2) if seed % 3 else ("s", "s")):
                    for _ in range(3):
                        try:
                            hand.do(("edit", name, (inner.choice(list(all_edits(("a", "b", "c")))),)))
                        except (ArithmeticError, KeyError, OverflowError, ValueError):
                            continue
                meets = set(hands[0].has_read) & set(hands[1].has_read)
                if not all(map(len, hands)):
                    break
                told = []
                for hand in reversed(hands) if turned else hands:
                    told.append(commit_despite(hand))
                fits.append((not meets, None not in told))
                registers.append(house.at())
            else:
                self.assertTrue(all(apart == fit for apart, fit in fits))
                both += fits[0][1]
                neither += not fits[0][1]
                if fits[0][1]:
                    self.assertEqual(*registers)
                    self.assertEqual([registers[0].words(n) for n in registers[0].studies], [registers[1].words(n) for n in registers[1].studies])
        self.assertGreater(min(both, neither), 3)

    def test_errors(self):
        check_errors(self, Hand, (self.house, "bob"), {0: (InvalidOperation, ODDER), 1: (InvalidName, NO_NAMES)})


class LogTest(unittest.TestCase):
    def test_lines(self):
        house = House()
        house.commit("ann", (("begin", "flu", ("x", "y"), (("x", "y"),), (("x", "y"),)), ("pin", "flu", ("told", ("x",), ("y",)))))
        house.commit("bob", (("edit", "flu", (("no bow", "y", "x"), ("thing", "z"))), ("pin", "flu", ("tells", ())), ("pin", "flu", ("tells", ((), ("x",), ("x", "y"))))), despite=(("flu", 1),))
        self.assertEqual(write_log(house), (
            '(1, "ann", (("begin", "flu", ("x", "y"), (("x", "y")), (("x", "y"))), ("pin", "flu", ("told", ("x"), ("y")))))\n'
            '(2, "bob", (("edit", "flu", (("no bow", "y", "x"), ("thing", "z"))), ("pin", "flu", ("tells", ())), ("pin", "flu", ("tells", ((), ("x"), ("x", "y"))))))\n'))
        self.assertEqual(read_log(write_log(house)), house)
        self.assertEqual((write_log(House()), read_log("")), ("", House()))

    def test_each_house_is_read_from_its_log(self):
        for seed in range(15):
            house = some_house(seed)
            text = write_log(house)
            self.assertEqual(text.count("\n"), len(house))
            again = read_log(text)
            self.assertEqual(again, house)
            for number in range(len(house) + 1):
                self.assertEqual(again.at(number), house.at(number))
                self.assertEqual([again.at(number).words(n) for n in again.at(number).studies], [house.at(number).words(n) for n in house.at(number).studies])
            house.back(2)
            self.assertEqual(write_log(house), "".join(line + "\n" for line in text.splitlines()[:-2]))
            self.assertFalse(read_log(write_log(house)) == house)
            self.assertEqual(read_log(write_log(house)).commits, house.commits)

    def test_cut_at_each_place(self):
        house = some_house(3, 4)
        text = write_log(house)
        for at in range(len(text) + 1):
            whole = text[:at].count("\n")
            found = read_log(text[:at])
            self.assertEqual((found.commits, found.present, found.undone), (house.commits[:whole], whole, ()))

    def test_lines_spoilt_at_one_sign(self):
        house = House()
        house.commit("ann", (BEGIN, PIN))
        house.commit("bob", (edit("flu", ("no arrow", "x", "z")), ("pin", "flu", ("free", ("x",), ("y",), ()))))
        text = write_log(house)
        draw = random.Random(1)
        spoilt = 0
        for at in range(len(text)):
            for made in (text[:at] + text[at + 1:], text[:at] + draw.choice('"(), 9aZ\n\t') + text[at:], text[:at] + draw.choice('"(), 0xB\n') + text[at + 1:]):
                try:
                    found = read_log(made)
                except ParseError as error:
                    self.assertIn(error.spot, (0, 1, 2))
                    self.assertLessEqual(made.split("\n")[:error.spot], text.split("\n")[:error.spot])
                    spoilt += 1
                else:
                    self.assertEqual(write_log(found), made[:made.rfind("\n") + 1])
        self.assertGreater(spoilt, len(text))

    def wrong(self, text):
        with self.assertRaises(ParseError) as caught:
            read_log(text)
        return caught.exception.spot

    def test_wrong_lines(self):
        first = '(1, "ann", (("begin", "flu", ("x", "y"), (("x", "y")), ())))\n'
        second = '(2, "ann", (("edit", "flu", (("bow", "x", "y")))))\n'
        self.assertEqual(len(read_log(first + second)), 2)
        self.assertEqual([self.wrong(text) for text in (second, second + first, first + first, first + second + second, first + "\n", "\n", first + second + "x\n")], [0, 0, 1, 2, 1, 0, 2])
        lines = (
            '(1, "ann", (("begin", "flu", ("x", "y"), (("x", "y"),), ())))', '(1, "ann", ())', '(1, "Ann", (("begin", "flu", ("x"), (), ())))', '(01, "ann", (("begin", "flu", ("x"), (), ())))',
            "(1, 'ann', (('begin', 'flu', ('x'), (), ())))", '(1, "ann", (("begin", "flu", ("x"), (), ()))) ', ' (1, "ann", (("begin", "flu", ("x"), (), ())))', '(1,"ann", (("begin", "flu", ("x"), (), ())))',
            '(1, "ann", (("begin", "flu", ("x", "x"), (), ())))', '(1, "ann", (("begin", "f u", ("x"), (), ())))', '(1, "ann", (("begin", "flu", ("x"), ())))', '(1, "ann", "begin")', '(1, "ann")', "(1)", "1",
            '(1, "ann", (("begin", "flu", ("x"), (), ())), ())', '(1, 2, (("begin", "flu", ("x"), (), ())))', '("1", "ann", (("begin", "flu", ("x"), (), ())))', '(1, "ann", (("pin", "flu", ("told", (), ("x")))))',
            '(1, "ann", (("begin", "flu", ("x"), (), ()), ("pin", "flu", 7)))', '(1, "ann", (("begin", "a\tb", ("x"), (), ())))', '(1, "ann", (("begin", "' + "x" * 3000 + '", ("x"), (), ())))', "(" * 5000,
            '(1, "ann", (("begin", "flu", ("x"), (), ()), ' + ", ".join(['("edit", "flu", (("thing", "y")))', '("edit", "flu", (("drop", "y")))'] * 5) + "))", '(1, "ann", (("begin", "flu", (("x")), (), ())))',
            '(1, "ann", (("begin", "flu", ("x"), (), ())))(', "9" * 2000, '(1, "ann", (("begin", "flu", "x", (), ())))', '(-1, "ann", (("begin", "flu", ("x"), (), ())))', '(True, "ann", (("begin", "flu", ("x"), (), ())))')
        for line in lines:
            self.assertEqual(self.wrong(line + "\n"), 0, line[:80])
            if '"pin", "flu", ("told"' not in line:
                self.assertEqual(self.wrong(first + line.replace("1", "2", 1) + "\n"), 1, line[:80])
            self.assertEqual(read_log(line), House())
        for value in ODDER:
            if not isinstance(value, str):
                self.assertIsNone(self.wrong(value))
            with self.assertRaises(InvalidOperation):
                write_log(value)

    def test_what_may_fall_is_not_asked(self):
        house = House()
        house.commit("ann", (BEGIN, PIN))
        house.commit("ann", (HIDE,), despite=(("flu", 1),))
        again = read_log(write_log(house))
        self.assertEqual((again, again.at().fallen), (house, (("flu", 1),)))

    def test_a_hundred_lines_and_one(self):
        house = House()
        house.commit("ann", tuple(other(f"s{at}") for at in range(8)))
        for number in range(2, 101):
            house.commit("bob", (edit(f"s{number % 8}", ("turn", "a", "b") if (number // 8) % 2 else ("turn", "b", "a")),) if number >= 8 else (("pin", f"s{number}", ("told", (), ("a",))),))
        text = write_log(house)
        self.assertEqual(read_log(text), house)
        self.assertEqual(self.wrong(text + text.splitlines()[-1].replace("(100,", "(101,") + "\n"), 100)


if __name__ == "__main__":
    unittest.main()
