"""Stage 19: one instrument, mixes of kinds of folk, and bounds of their effect."""
import itertools
import random
import unittest
from fractions import Fraction

from seenanddone.deed.deeds import done
from seenanddone.errors import InvalidOperation, InvalidTable, InvalidWorld, Refused, TooMany
from seenanddone.mix.instrument import (
    KINDS, broken_sum, effect_bounds, effect_of, four_sums, greatest_effect, instrument, is_broken_sum,
    is_greatest_effect, is_least_effect, is_mix_of, least_effect, made_by, mix_of, mix_world, outcomes_of)
from seenanddone.web.diagrams import Diagram
from seenanddone.world.tables import Table
from seenanddone.world.worlds import World
from tests.helper import ODDER, check_errors, check_judge, rows_of, some_table, some_world

TAKEN = {
    (0, 0, 0): (1, 2), (0, 0, 1): (1, 2), (0, 1, 0): (0, 1), (0, 1, 1): (0, 1),
    (1, 0, 0): (0, 1), (1, 0, 1): (0, 1), (1, 1, 0): (1, 4), (1, 1, 1): (3, 4)}
TRIPLES = rows_of([2, 2, 2])
EVEN_MIX = ((1, 16),) * 16
EVEN = dict.fromkeys(TRIPLES, (1, 4))
BROKEN = {**TAKEN, (0, 0, 0): (1, 1), (0, 0, 1): (0, 1), (1, 0, 1): (1, 4), (1, 1, 1): (1, 2)}


def pair_of(value):
    return (value.numerator, value.denominator)


def shares_of(draw, size, bottom, lack=0.3):
    tops = [0 if draw.random() < lack else draw.randint(1, bottom) for _ in range(size)]
    tops[draw.randrange(size)] += 1
    return tuple(pair_of(Fraction(top, sum(tops))) for top in tops)


def outcomes_from(one, other):
    return dict(zip(TRIPLES, one + other))


def some_mix(seed, bottom=30, lack=0.4):
    return shares_of(random.Random(seed), 16, bottom, lack)


def some_outcomes(many):
    """Outcomes that mixes make, and others."""
    for seed in range(many):
        draw = random.Random(seed)
        if seed % 3 == 0:
            yield made_by(some_mix(seed, draw.choice((2, 9)), draw.choice((0.2, 0.7))))
        else:
            yield outcomes_from(shares_of(draw, 4, draw.choice((2, 6, 10 ** 6)), 0.4), shares_of(draw, 4, draw.choice((2, 6, 10 ** 6)), 0.4))


def plain_made(mix):
    found = dict.fromkeys(TRIPLES, Fraction(0))
    for kind, share in zip(itertools.product((0, 1), repeat=4), mix):
        for z in (0, 1):
            x = kind[z]
            found[(z, x, kind[2 + x])] += Fraction(*share)
    return found


def plain_effect(mix):
    kinds = itertools.product((0, 1), repeat=4)
    return sum((kind[3] - kind[2]) * Fraction(*share) for kind, share in zip(kinds, mix))


def plain_sums(outcomes):
    return [Fraction(*outcomes[(z, x, 0)]) + Fraction(*outcomes[(1 - z, x, 1)]) for x in (0, 1) for z in (0, 1)]


def plain_bounds(outcomes):
    """The bounds that Balke and Pearl tell, each the best one of eight sums."""
    p = {(x, y, z): Fraction(*outcomes[(z, x, y)]) for z, x, y in TRIPLES}

    def at(text):
        total = Fraction(0)
        for word in text.split():
            sign = -1 if word[0] == "-" else 1
            digits = word.lstrip("+-")
            total += sign * (Fraction(digits) if len(digits) == 1 else p[(int(digits[1]), int(digits[0]), int(digits[2]))])
        return total
    # Words like 110 tell y, x and z.
    lower = [
        "110 +001 -1", "111 +000 -1", "110 -111 -101 -010 -100", "111 -110 -100 -011 -101", "-011 -101", "-010 -100",
        "001 -011 -101 -010 -000", "000 -010 -100 -011 -001"]
    upper = [
        "1 -010 -101", "1 -011 -100", "-010 +011 +001 +110 +000", "-011 +111 +001 +010 +000", "111 +001", "110 +000",
        "-101 +111 +001 +110 +100", "-100 +110 +000 +111 +101"]
    return max(map(at, lower)), min(map(at, upper))


def plain_paper(outcomes, value, sign):
    mix, prices = value
    if plain_made(mix) != {triple: Fraction(*share) for triple, share in outcomes.items()}:
        return False
    for x0, x1, y0, y1 in itertools.product((0, 1), repeat=4):
        paid = Fraction(*prices[(0, x0, (y0, y1)[x0])]) + Fraction(*prices[(1, x1, (y0, y1)[x1])])
        if sign * paid > sign * (y1 - y0):
            return False
    return sum(Fraction(*outcomes[triple]) * Fraction(*prices[triple]) for triple in TRIPLES) == plain_effect(mix)


class MixTest(unittest.TestCase):
    def test_instrument_and_kinds(self):
        self.assertEqual(instrument(), Diagram(("x", "y", "z"), (("x", "y"), ("z", "x")), (("x", "y"),)))
        self.assertEqual(KINDS, tuple(itertools.product((0, 1), repeat=4)))

    def test_made_and_effect(self):
        for seed in range(60):
            mix = some_mix(seed, 10 ** (seed % 9 + 1))
            made = made_by(mix)
            self.assertEqual({triple: Fraction(*share) for triple, share in made.items()}, plain_made(mix))
            self.assertEqual(list(made), TRIPLES)
            self.assertEqual(effect_of(mix), pair_of(plain_effect(mix)))
            self.assertEqual(four_sums(made), tuple(map(pair_of, plain_sums(made))))
        for kind, mix in zip(KINDS, (tuple((1, 1) if at == index else (0, 1) for at in range(16)) for index in range(16))):
            self.assertEqual(effect_of(mix), (kind[3] - kind[2], 1))
            self.assertEqual([triple for triple, share in made_by(mix).items() if share == (1, 1)],
                             [(z, kind[z], kind[2 + kind[z]]) for z in (0, 1)])

    def test_long_mixes(self):
        long = 10 ** 299 + 1
        mix = (pair_of(Fraction(1, long)), pair_of(Fraction(long - 1, long))) + ((0, 1),) * 14
        self.assertEqual(effect_of(mix), pair_of(Fraction(long - 1, long)))
        self.assertEqual(made_by(mix)[(0, 0, 0)], (1, 1))
        longer = 10 ** 300
        for value in ((pair_of(Fraction(1, longer)), pair_of(Fraction(longer - 1, longer))) + ((0, 1),) * 14,):
            for call in (made_by, effect_of):
                with self.assertRaises(InvalidOperation):
                    call(value)
        unlike = [10 ** 290 + 2 * at + 1 for at in range(15)]
        mix = tuple(pair_of(Fraction(1, bottom)) for bottom in unlike)
        last = 1 - sum(Fraction(*share) for share in mix)
        self.assertGreater(last.denominator, longer)
        with self.assertRaises(InvalidOperation):
            made_by(mix + (pair_of(last),))

    def test_errors(self):
        bad = ODDER + (EVEN_MIX[:15], EVEN_MIX + ((0, 1),), list(EVEN_MIX), ((1, 8),) * 16, ((2, 32),) * 16, ((1, 16),) * 14 + ((-1, 16), (3, 16)), ((True, 16),) * 16)
        for call in (made_by, effect_of):
            check_errors(self, call, (EVEN_MIX,), {0: (InvalidOperation, bad)})
        check_errors(self, mix_world, (EVEN_MIX, ((1, 2), (1, 2))), {
            0: (InvalidOperation, bad), 1: (InvalidOperation, ODDER + (((1, 1),), ((1, 3),) * 3, ((1, 2), (1, 3)), ((3, 2), (-1, 2)), [(1, 2), (1, 2)]))})


class OutcomesTest(unittest.TestCase):
    def test_a_mix_or_a_broken_sum(self):
        told = set()
        for outcomes in some_outcomes(250):
            sums = plain_sums(outcomes)
            self.assertEqual(four_sums(outcomes), tuple(map(pair_of, sums)))
            mix, index = mix_of(outcomes), broken_sum(outcomes)
            self.assertEqual(mix is None, max(sums) > 1)
            self.assertEqual(index is None, max(sums) <= 1)
            told.add(index)
            if mix is not None:
                self.assertEqual(made_by(mix), outcomes)
                self.assertIs(is_mix_of(outcomes, mix), True)
            for at in range(-1, 5):
                self.assertIs(is_broken_sum(outcomes, at), 0 <= at < 4 and sums[at] > 1)
            other = some_mix(1)
            self.assertIs(is_mix_of(outcomes, other), plain_made(other) == {t: Fraction(*outcomes[t]) for t in TRIPLES})
        self.assertEqual(told, {None, 0, 1, 2, 3})

    def test_at_most_one_sum_is_broken_yet_any_of_them(self):
        self.assertEqual(plain_sums(BROKEN)[0], Fraction(5, 4))
        self.assertEqual(broken_sum(BROKEN), 0)
        for call in (least_effect, greatest_effect, effect_bounds, lambda value: is_least_effect(value, None), lambda value: is_greatest_effect(value, None)):
            with self.assertRaises(Refused) as caught:
                call(BROKEN)
            self.assertEqual(caught.exception.reason, ("sum", 0))

    def test_papers(self):
        reached = set()
        for outcomes in some_outcomes(250):
            if broken_sum(outcomes) is not None:
                continue
            low, high = least_effect(outcomes), greatest_effect(outcomes)
            self.assertTrue(plain_paper(outcomes, low, 1) and plain_paper(outcomes, high, -1))
            self.assertTrue(is_least_effect(outcomes, low) and is_greatest_effect(outcomes, high))
            bounds = plain_bounds(outcomes)
            self.assertEqual(effect_bounds(outcomes), tuple(map(pair_of, bounds)))
            self.assertEqual((plain_effect(low[0]), plain_effect(high[0])), bounds)
            if bounds[0] != bounds[1]:
                self.assertIs(is_least_effect(outcomes, high), False)
                self.assertIs(is_greatest_effect(outcomes, low), False)
                self.assertIs(is_least_effect(outcomes, (high[0], low[1])), False)
                self.assertIs(is_least_effect(outcomes, (low[0], high[1])), False)
            reached.add(bounds[0] == bounds[1])
            # [19.5]
            for z in (0, 1):
                width = sum(Fraction(*outcomes[t]) for t in ((z, 1, 0), (z, 1, 1), (1 - z, 0, 0), (1 - z, 0, 1)))
                self.assertLessEqual(bounds[1] - bounds[0], width)
            # With the bits exchanged the bounds are the same, or change sides.
            for flip_z, flip_x, flip_y in TRIPLES:
                turned = {(z ^ flip_z, x ^ flip_x, y ^ flip_y): share for (z, x, y), share in outcomes.items()}
                same = bounds if flip_x == flip_y else (-bounds[1], -bounds[0])
                self.assertEqual(effect_bounds(turned), tuple(map(pair_of, same)))
        self.assertEqual(reached, {True, False})

    def test_examples(self):
        self.assertEqual(four_sums(TAKEN), ((1, 2), (1, 2), (3, 4), (1, 4)))
        self.assertEqual(effect_bounds(TAKEN), ((1, 4), (1, 4)))
        self.assertEqual(effect_bounds(EVEN), ((-1, 2), (1, 2)))

    def test_other_papers(self):
        low = least_effect(TAKEN)
        mix, prices = low
        shifted = {t: pair_of(Fraction(*price) + (1 if t[0] else -1) * Fraction(7, 10 ** 400)) for t, price in prices.items()}
        check_judge(self, lambda value: is_least_effect(TAKEN, value), [low, (mix, dict(reversed(list(prices.items())))), (mix, shifted)], [
            list(low), (mix,), (mix, prices, ()), (prices, mix), (mix, {}), (mix, {**prices, (2, 0, 0): (0, 1)}), (EVEN_MIX, prices), (list(mix), prices),
            (mix, {**prices, (0, 0, 0): (9, 1)}), (mix, None),
            (mix, {**prices, (0, 0, 0): (2, 4)}), (mix, {**prices, (0, 0, 0): 0}), (mix, dict.fromkeys(TRIPLES, (0, 1))), (mix, dict.fromkeys(TRIPLES, (-1, 1))),
            (mix, {(bool(z), x, y): price for (z, x, y), price in prices.items()})])
        high = greatest_effect(TAKEN)
        check_judge(self, lambda value: is_greatest_effect(TAKEN, value), [high], [
            (high[0], dict.fromkeys(TRIPLES, (1, 1))), (high[0], dict.fromkeys(TRIPLES, (0, 1))), [high[0], high[1]], (high[0],)])
        check_judge(self, lambda value: is_mix_of(EVEN, value), [EVEN_MIX, mix_of(EVEN)], [EVEN_MIX[:15], list(EVEN_MIX), some_mix(2), EVEN_MIX + ((0, 1),)])
        third = {(1 - z, 1 - x, y): share for (z, x, y), share in BROKEN.items()}
        self.assertEqual(broken_sum(third), 3)
        check_judge(self, lambda value: is_broken_sum(third, value), [3], [0, 1, 2, 4, -1, (3, 1), "3"])
        self.assertEqual([is_broken_sum(BROKEN, 0), is_broken_sum(BROKEN, False)], [True, False])

    def test_papers_of_long_integers(self):
        # Two kinds that never take it, and do alike then: what is moved from the one to the other changes no outcome.
        self.assertEqual([KINDS[0], KINDS[1]], [(0, 0, 0, 0), (0, 0, 0, 1)])
        for digits, right in ((200, True), (300, True), (301, False), (900, False)):
            little = Fraction(1, 16 * 10 ** (digits - 1) - 16)
            mix = (pair_of(Fraction(1, 16) + little), pair_of(Fraction(1, 16) - little)) + EVEN_MIX[2:]
            self.assertEqual(plain_made(mix), {t: Fraction(1, 4) for t in TRIPLES})
            self.assertEqual(max(len(str(number)) for share in mix for number in share), digits)
            self.assertIs(is_mix_of(EVEN, mix), right)
        # A part of a paper can be told otherwise where it costs nothing: prices that go up for one offer, down for the other.
        low = least_effect(EVEN)
        for digits in (300, 990):
            little = Fraction(1, 10 ** digits + 7)
            moved = {t: pair_of(Fraction(*price) + (little if t[0] else -little)) for t, price in low[1].items()}
            self.assertIs(is_least_effect(EVEN, (low[0], moved)), True)
            moved[(0, 0, 0)] = pair_of(Fraction(*moved[(0, 0, 0)]) + little)
            self.assertIs(is_least_effect(EVEN, (low[0], moved)), False)

    def test_thirty_digits(self):
        long = 10 ** 30 - 1
        one = (pair_of(Fraction(1, long)), pair_of(Fraction(long - 1, long)), (0, 1), (0, 1))
        other = ((0, 1), (1, 3), pair_of(Fraction(2, 3)), (0, 1))
        outcomes = outcomes_from(one, other)
        self.assertEqual(effect_bounds(outcomes), tuple(map(pair_of, plain_bounds(outcomes))))
        longer = 10 ** 30
        with self.assertRaises(InvalidOperation):
            four_sums(outcomes_from((pair_of(Fraction(1, longer)), pair_of(Fraction(longer - 1, longer)), (0, 1), (0, 1)), other))
        # Mixes and prices stay within 300 digits.
        for seed in range(20):
            draw = random.Random(seed)
            parts = []
            for _ in (0, 1):
                first, second = draw.randint(10 ** 14, 10 ** 15), draw.randint(10 ** 14, 10 ** 15)
                half, rest = Fraction(first - 1, first) / 2, Fraction(second - 1, second) / 2
                parts.append(tuple(map(pair_of, (half, Fraction(1, 2) - half, rest, Fraction(1, 2) - rest))))
            outcomes = outcomes_from(*parts)
            if broken_sum(outcomes) is None:
                low = least_effect(outcomes)
                self.assertTrue(all(abs(number) < 10 ** 300 for share in low[0] + tuple(low[1].values()) for number in share))
                self.assertIs(is_least_effect(outcomes, low), True)
                self.assertEqual(effect_bounds(outcomes), tuple(map(pair_of, plain_bounds(outcomes))))

    def test_errors(self):
        bad = ODDER + ({**TAKEN, (0, 0, 0): (1, 3)}, {**TAKEN, (0, 0, 0): (3, 2), (0, 0, 1): (-1, 2)}, {t: TAKEN[t] for t in TRIPLES[1:]}, {**TAKEN, (0, 0): (0, 1)},
                       {**TAKEN, (0, 0, 0): (2, 4)}, {**TAKEN, (0, 1, 0): 0}, {(True if z else False, x, y): s for (z, x, y), s in TAKEN.items()}, list(TAKEN.items()),
                       {**{t: TAKEN[t] for t in TRIPLES[1:]}, (0, 0, 2): (1, 2)}, {**{t: TAKEN[t] for t in TRIPLES[1:]}, "000": (1, 2)},
                       *({**{t: TAKEN[t] for t in TRIPLES if t != gone}, more: TAKEN[gone]} for gone, more in (((1, 0, 0), (2, 0, 0)), ((0, 1, 0), (0, 2, 0)), ((0, 1, 1), (0, 1, 2)))))
        for call in (four_sums, mix_of, broken_sum, least_effect, greatest_effect, effect_bounds):
            check_errors(self, call, (TAKEN,), {0: (InvalidOperation, bad)})
        for call in (is_mix_of, is_broken_sum, is_least_effect, is_greatest_effect):
            check_errors(self, call, (TAKEN, None), {0: (InvalidOperation, bad)})


class WorldTest(unittest.TestCase):
    def test_worlds_of_mixes(self):
        for seed in range(25):
            mix = some_mix(seed, 9, 0.3)
            offer = shares_of(random.Random(seed), 2, 9, 0)
            world = mix_world(mix, offer)
            self.assertEqual((world.diagram, world.sizes, world.hidden), (instrument(), dict.fromkeys("xyz", 2), {("x", "y"): mix}))
            self.assertEqual(world.tables["z"], {(): offer})
            self.assertEqual(outcomes_of(world.seen), made_by(mix))
            behind = [Fraction(*done(world, {"x": x}).share({"y": 1})) for x in (0, 1)]
            self.assertEqual(behind[1] - behind[0], plain_effect(mix))
        with self.assertRaises(InvalidWorld):
            mix_world((pair_of(Fraction(1, 1000003)), pair_of(Fraction(1000002, 1000003))) + ((0, 1),) * 14, ((1, 2), (1, 2)))
        with self.assertRaises(InvalidWorld):
            mix_world(EVEN_MIX, ((1, 1000003), (1000002, 1000003)))
        sure = mix_world(EVEN_MIX, ((1, 1), (0, 1)))
        with self.assertRaises(Refused) as caught:
            outcomes_of(sure.seen)
        self.assertEqual(caught.exception.reason, ("offer", 1))

    def test_bounds_hold_in_all_worlds(self):
        for seed in range(40):
            world = some_world(instrument(), seed, (2,), (1, 2, 3, 4))
            outcomes = outcomes_of(world.seen)
            self.assertIsNone(broken_sum(outcomes))
            behind = [Fraction(*done(world, {"x": x}).share({"y": 1})) for x in (0, 1)]
            low, high = [Fraction(*bound) for bound in effect_bounds(outcomes)]
            self.assertTrue(low <= behind[1] - behind[0] <= high)

    def test_outcomes_of(self):
        table = some_table(1, {"x": 2, "y": 2, "z": 2})
        for z, x, y in TRIPLES:
            self.assertEqual(outcomes_of(table)[(z, x, y)], table.share_given({"x": x, "y": y}, {"z": z}))
        self.assertEqual(list(outcomes_of(table)), TRIPLES)

    def test_refusals_in_their_order(self):
        for value in ODDER + (some_table(1, {"x": 2, "y": 2}), some_table(1, {"x": 2, "y": 3, "z": 2}), some_table(1, {"w": 2, "x": 2, "y": 2}), World):
            with self.assertRaises(InvalidTable):
                outcomes_of(value)
        long = 10 ** 30
        for first, index in ((0, 1), (1, 0)):
            shares = {row: (0, 1) for row in rows_of([2, 2, 2])}
            shares[(0, 0, first)], shares[(1, 1, first)] = (1, long), (long - 1, long)
            with self.assertRaises(Refused) as caught:
                outcomes_of(Table({"x": 2, "y": 2, "z": 2}, shares))
            self.assertEqual(caught.exception.reason, ("offer", index))
        shares = {row: (0, 1) for row in rows_of([2, 2, 2])}
        shares[(0, 0, 0)], shares[(1, 1, 0)], shares[(0, 0, 1)] = pair_of(Fraction(1, 2 * long)), pair_of(Fraction(long - 1, 2 * long)), (1, 2)
        with self.assertRaises(TooMany) as caught:
            outcomes_of(Table({"x": 2, "y": 2, "z": 2}, shares))
        self.assertEqual(caught.exception.limit, 30)
        shares[(0, 0, 0)], shares[(1, 1, 0)] = pair_of(Fraction(1, 2 * (long - 1))), pair_of(Fraction(long - 2, 2 * (long - 1)))
        self.assertEqual(outcomes_of(Table({"x": 2, "y": 2, "z": 2}, shares))[(0, 0, 0)], (1, long - 1))


if __name__ == "__main__":
    unittest.main()
