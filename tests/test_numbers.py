"""Stage 1: fractions, names and lots."""
import itertools
import unittest
from fractions import Fraction

from seenanddone.base import numbers
from seenanddone.base.numbers import (
    HALF, ONE, ZERO, are_shares, common, fraction, fraction_text, is_below, is_fraction, is_lot, is_name, lots_of, minus,
    over, plus, power, read_fraction, times, total, union, without)
from seenanddone.errors import InvalidFraction, InvalidLot, InvalidNumber, InvalidOperation, ParseError, Refused
from tests.helper import FORK, LONG, NO_LOTS, ODD, ODDER, TOO_LONG, check_errors

MOST = TOO_LONG - 1
NO_FRACTIONS = (
    None, True, 1, "1/2", "", [1, 2], [], (), (1,), (1, 2, 3), (2, 4), (0, 2), (1, 0), (1, -2), (-1, -2), (0, -1), (3, 3),
    (True, 2), (1, True), (None, 1), ("1", 1), ((1, 2), 1), {1: 2}, {}, FORK, (TOO_LONG, 1), (1, TOO_LONG),
    (-TOO_LONG, 1), (1, TOO_LONG + 1), (0, 0))
SOME = [(top, bottom) for top in range(-6, 7) for bottom in range(1, 7) if Fraction(top, bottom).denominator == bottom]


def pair(value):
    return (value.numerator, value.denominator)


class FractionTest(unittest.TestCase):
    def test_constants(self):
        self.assertEqual((ZERO, ONE, HALF), ((0, 1), (1, 1), (1, 2)))

    def test_is_fraction(self):
        for value in [(0, 1), (1, 1), (-1, 1), (2, 3), (-7, 5), (MOST, 1), (-MOST, 1), (1, MOST), (LONG, MOST)]:
            self.assertIs(is_fraction(value), True)
        for value in NO_FRACTIONS:
            self.assertIs(is_fraction(value), False, str(value)[:50])
        for value in ODDER:
            self.assertIs(is_fraction(value), value in ((0, 1), (1, 1)) and value[0] is not True)

    def test_fraction(self):
        for top, bottom in itertools.product(range(-12, 13), range(-12, 13)):
            if bottom:
                self.assertEqual(fraction(top, bottom), pair(Fraction(top, bottom)))
        self.assertEqual(fraction(5), (5, 1))
        self.assertEqual(fraction(0, -7), (0, 1))
        self.assertEqual(fraction(4, -6), (-2, 3))
        self.assertEqual(fraction(MOST, -MOST), (-1, 1))
        self.assertEqual(fraction(-MOST), (-MOST, 1))
        for part in fraction(True + 1, 2):
            self.assertIs(type(part), int)

    def test_fraction_errors(self):
        wrong = (True, None, "1", (1,), [], {}, False, FORK, TOO_LONG, -TOO_LONG, 10 ** 1099)
        check_errors(self, fraction, (1, 2), {0: (InvalidNumber, wrong), 1: (InvalidNumber, (0,) + wrong)})
        for value in wrong:
            for call in (lambda: fraction(value, 0), lambda: fraction(1, value), lambda: fraction(value)):
                with self.assertRaises(InvalidNumber) as caught:
                    call()
                self.assertIs(caught.exception.given, value)
        with self.assertRaises(InvalidNumber) as caught:
            fraction(3, 0)
        self.assertEqual(caught.exception.given, 0)

    def test_sums_and_products(self):
        for one, other in itertools.product(SOME, SOME):
            a, b = Fraction(*one), Fraction(*other)
            self.assertEqual(plus(one, other), pair(a + b))
            self.assertEqual(minus(one, other), pair(a - b))
            self.assertEqual(times(one, other), pair(a * b))
            self.assertIs(is_below(one, other), a < b)
            if b:
                self.assertEqual(over(one, other), pair(a / b))
            else:
                with self.assertRaises(Refused) as caught:
                    over(one, other)
                self.assertEqual(caught.exception.reason, ("zero",))

    def test_what_is_made_may_be_longer(self):
        self.assertEqual(times((MOST, 1), (MOST, 1)), (MOST * MOST, 1))
        self.assertEqual(plus((1, MOST), (1, LONG)), pair(Fraction(1, MOST) + Fraction(1, LONG)))
        self.assertEqual(power((2, MOST), 64), (2 ** 64, MOST ** 64))
        with self.assertRaises(InvalidFraction):
            plus(times((MOST, 1), (MOST, 1)), ONE)

    def test_errors_of_two_operands(self):
        for call in (plus, minus, times, over, is_below):
            check_errors(self, call, ((1, 2), (1, 3)), {0: (InvalidFraction, NO_FRACTIONS), 1: (InvalidFraction, NO_FRACTIONS)})
        # The wrong first operand goes ahead of the division by 0.
        for value in NO_FRACTIONS:
            with self.assertRaises(InvalidFraction):
                over(value, ZERO)

    def test_total(self):
        self.assertEqual(total(()), (0, 1))
        self.assertEqual(total(((1, 2), (1, 2))), (1, 1))
        self.assertEqual(total(tuple(SOME)), pair(sum(Fraction(*one) for one in SOME)))
        self.assertEqual(total(((1, 3),) * 256), (256, 3))
        wrong = [value for value in ODD if value != ()] + [((1, 3),) * 257, [(1, 2)], ((1, 2), (2, 4)), ((1, 2), None)]
        check_errors(self, total, ((),), {0: (InvalidOperation, wrong)})

    def test_power(self):
        self.assertEqual(power((2, 3), 2), (4, 9))
        for base in SOME:
            for count in (0, 1, 2, 3, 5, 64):
                self.assertEqual(power(base, count), pair(Fraction(*base) ** count))
        self.assertEqual(power((0, 1), 0), (1, 1))
        wrong = (-1, 65, None, True, "2", (2,), [], TOO_LONG)
        check_errors(self, power, ((1, 2), 2), {0: (InvalidFraction, NO_FRACTIONS), 1: (InvalidNumber, wrong)})
        for value in wrong:
            with self.assertRaises(InvalidNumber) as caught:
                power(ONE, value)
            self.assertIs(caught.exception.given, value)


class SharesTest(unittest.TestCase):
    def test_are_shares(self):
        good = [((1, 1),), ((1, 2), (1, 2)), ((0, 1), (1, 1)), ((1, 3), (1, 6), (1, 2)), ((1, 100),) * 100,
                ((1, MOST), (MOST - 1, MOST))]
        for value in good:
            self.assertIs(are_shares(value), True)
        bad = [(), ((1, 2),), ((1, 2), (1, 3)), ((3, 2), (-1, 2)), ((2, 2),), [(1, 1)], ((True, 1),), ((1, True),),
               ((1, 2), (2, 4)), ((1, 2), 1), "1", ((0, 1),), ((1, 1), (1, 1)), ((1, 1), None), ((1, TOO_LONG), (1, 1))]
        for value in bad + list(ODDER):
            self.assertIs(are_shares(value), False, str(value)[:50])


class NameTest(unittest.TestCase):
    def test_names(self):
        for value in ("a", "z", "a0", "z9", "abcdefgh", "a1234567"):
            self.assertIs(is_name(value), True)
        for value in ("", "A", "1", "0a", "abcdefghi", "a-b", "a_b", " a", "a ", "a\n", "aB", "\u00e9", "a\u00e9", "a\u0661",
                      "\u0251", "a" * 20000, b"a", ("a",), ["a"], None, True, 1, {}, FORK):
            self.assertIs(is_name(value), False)

    def test_lots(self):
        for value in ((), ("a",), ("a", "b"), ("a", "a0", "b"), tuple("abcdefghijklmnopqrstuvwxyz"), ("a10", "a2")):
            self.assertIs(is_lot(value), True)
        for value in NO_LOTS:
            self.assertIs(is_lot(value), value == ("q",) or value == ("a", "q"), str(value)[:50])
        for value in (("a", "b", "b"), ("a", "c", "b"), ("a2", "a10"), ("a", True)):
            self.assertIs(is_lot(value), False)

    def test_union_common_without(self):
        lots = [lot for size in range(4) for lot in itertools.combinations("abcd", size)]
        for one, other in itertools.product(lots, lots):
            self.assertEqual(union(one, other), tuple(sorted(set(one) | set(other))))
            self.assertEqual(common(one, other), tuple(sorted(set(one) & set(other))))
            self.assertEqual(without(one, other), tuple(sorted(set(one) - set(other))))
        many = tuple(f"n{k:02d}" for k in range(40))
        self.assertEqual(union(many[::2], many[1::2]), many)

    def test_errors_of_lots(self):
        wrong = [value for value in NO_LOTS if value not in (("q",), ("a", "q"))]
        for call in (union, common, without):
            check_errors(self, call, (("a",), ("b",)), {0: (InvalidLot, wrong), 1: (InvalidLot, wrong)})

    def test_lots_of(self):
        lot = ("a", "b", "c", "d", "e")
        every = [part for size in range(6) for part in itertools.combinations(lot, size)]
        self.assertEqual(list(lots_of(lot)), every)
        self.assertEqual(list(lots_of(lot, None)), every)
        for most in range(8):
            self.assertEqual(list(lots_of(lot, most)), [part for part in every if len(part) <= most])
        self.assertEqual(list(lots_of(lot, MOST)), every)
        self.assertEqual(list(lots_of(())), [()])
        self.assertEqual(list(lots_of((), 0)), [()])
        self.assertEqual(len(list(lots_of(tuple("abcdefghij")))), 1024)
        self.assertEqual(next(iter(lots_of(lot))), ())

    def test_lots_of_is_a_generator(self):
        walk = lots_of(("a", "b"))
        self.assertIs(iter(walk), walk)
        self.assertEqual([next(walk), next(walk)], [(), ("a",)])

    def test_errors_of_lots_of(self):
        wrong = [value for value in NO_LOTS if value not in (("q",), ("a", "q"))] + [tuple("abcdefghijk")]
        numbers_ = (-1, True, "1", (1,), [], TOO_LONG, -TOO_LONG, {})
        for value in wrong:
            walk = lots_of(value, -1)
            with self.assertRaises(InvalidLot):
                next(walk)
        for value in numbers_:
            walk = lots_of(("a",), value)
            with self.assertRaises(InvalidNumber) as caught:
                next(walk)
            self.assertIs(caught.exception.given, value)


class TextTest(unittest.TestCase):
    def test_write(self):
        for value, text in (((0, 1), "0"), ((5, 1), "5"), ((-5, 1), "-5"), ((2, 3), "2/3"), ((-2, 3), "-2/3")):
            self.assertEqual(fraction_text(value), text)
        self.assertEqual(fraction_text((-MOST, LONG)), "-" + "9" * 1000 + "/1" + "0" * 999)
        check_errors(self, fraction_text, ((1, 2),), {0: (InvalidFraction, NO_FRACTIONS)})

    def test_read(self):
        for text, value in (("4/6", (2, 3)), ("3/1", (3, 1)), ("0/5", (0, 1)), ("0", (0, 1)), ("7", (7, 1)), ("-7", (-7, 1)),
                            ("-4/6", (-2, 3)), ("10/20", (1, 2)), ("100", (100, 1)), ("0/1", (0, 1))):
            self.assertEqual(read_fraction(text), value)
        for value in SOME:
            self.assertEqual(read_fraction(fraction_text(value)), value)
        digits = "9" * 1000
        self.assertEqual(read_fraction(f"-{digits}/{digits}"), (-1, 1))
        self.assertEqual(read_fraction(f"{digits}"), (MOST, 1))

    def assert_spot(self, text, spot):
        with self.assertRaises(ParseError, msg=str(text)[:40]) as caught:
            read_fraction(text)
        self.assertEqual(caught.exception.spot, spot, str(text)[:40])
        self.assertIsNot(caught.exception.spot, True)

    def test_read_no_text(self):
        for value in (None, 1, True, (), ("1",), [], {}, (1, 2), FORK, b"1"):
            self.assert_spot(value, None)

    def test_spots(self):
        long = "1" * 1000
        cases = {
            "": 0, " ": 0, "a": 0, "/": 0, "+1": 0, "-": 1, "--1": 1, "-0": 1, "-0/5": 1, "-/": 1, "- 1": 1, "-a": 1, "00": 1,
            "01": 1, "0-": 1, "-01": 1, "1a": 1, "1 ": 1, " 1": 0, "1.5": 1, "12-": 2, "1/": 2, "1/0": 2, "1/05": 2, "1/00": 2,
            "1/-2": 2, "1//2": 2, "1/ 2": 2, "1/a": 2, "1/2/": 3, "1/2/3": 3, "1/2 ": 3, "1/2-": 3, "1/2\n": 3, "1/23a": 4,
            "0/": 2, "0/0": 2, "-3/": 3, "-3/0": 3, "1\n": 1, "\u0661": 0, "1\u0661": 1, "1/\u0661": 2, "\u00b2": 0,
            long + "1": 1000, "-" + long + "1": 1001, "1/" + long + "1": 1002, long + "0/1": 1000, long + "/": 1001,
            long + "/" + long + "1": 2001, long + "a": 1000, "0" + long: 1, "-" + long + "/" + long + "/": 2002,
            "a" * 20000: 0, "9" * 20000: 1000,
        }
        for text, spot in cases.items():
            self.assert_spot(text, spot)

    def test_spoilt_texts(self):
        """A text is spoilt at the first character with which no text goes on, by a plain look at short texts."""
        signs = "-/012a"
        good = set()
        tops = ["0"] + [sign + a + b for sign in ("", "-") for a in "12" for b in ("", "0", "1", "2")]
        bottoms = [a + b for a in "12" for b in ("", "0", "1", "2")]
        for top in tops:
            good.add(top)
            for bottom in bottoms:
                good.add(f"{top}/{bottom}")
        begun = {text[:size] for text in good for size in range(len(text) + 1)}
        for size in range(6):
            for parts in itertools.product(signs, repeat=size):
                text = "".join(parts)
                runs = "".join(sign if sign in "012" else " " for sign in text).split()
                if any(len(run) > 2 for run in runs):
                    continue
                if text in good:
                    top, _, bottom = text.partition("/")
                    self.assertEqual(read_fraction(text), pair(Fraction(int(top), int(bottom or "1"))))
                    continue
                spot = next((k for k in range(len(text)) if text[:k + 1] not in begun), len(text))
                self.assert_spot(text, spot)

    def test_defined_here(self):
        for name in ("fraction", "plus", "lots_of", "read_fraction", "is_lot", "are_shares"):
            self.assertEqual(getattr(numbers, name).__module__, "seenanddone.base.numbers")


if __name__ == "__main__":
    unittest.main()
