"""[13]: MIXES of COLUMNS that gain, RATES by which none does, the greatest share."""

import random
import unittest
from fractions import Fraction

from paidbyheirs.cuts import cut, divided
from paidbyheirs.errors import CanNot, TooMany, Unfit
from paidbyheirs.kinds import made, taken, worth
from paidbyheirs.let import best_kinds, let_sorts
from paidbyheirs.lines import best_mix, best_share, craft_columns, gaining, is_best_mix, is_gaining, is_mix, is_rates
from paidbyheirs.lines import mix_gain, rates
from paidbyheirs.payments import even
from tests.known import BEYOND, BORDER, CHAIN, CRAFTS, JUNK, LONE, MELDS, NEVER, PASSES, TWINS, deep, diced_crafts
from tests.known import variants

TIGHT = (((4, 3), (-1,)), ((-8, 3), (2,)))
LOOSE = (((3, 2), (-1,)), ((-5, 2), (2,)))
WORTHS = (((4, 1), (-1,)), ((0, 1), (2,)))
# Without places each COLUMN is a MIX of its own.
BARE = (((-1, 2), ()), ((0, 1), ()), ((-3, 1), ()))
# Nothing but noughts at the second place; the third tells what the first does.
FLAT = (((2, 1), (1, 0, 2)), ((-1, 1), (-1, 0, -2)), ((-1, 1), (0, 0, 0)), ((-2, 1), (-2, 0, -4)))
# No MIX at all.
FAST = (((5, 1), (1, 2)), ((7, 1), (3, 1)))
ONE = (1, 1)
NOUGHT = (0, 1)


def value(fraction):
    return Fraction(*fraction)


def plain_is_mix(columns, thing):
    if type(thing) is not tuple or len(thing) != len(columns):
        return False
    if not all(type(number) is int and number >= 0 for number in thing) or not any(thing):
        return False
    return all(sum(number * row[at] for number, (_, row) in zip(thing, columns)) == 0 for at in range(len(columns[0][1])))


def plain_gain(parts, mix):
    return sum((value(part) * number for part, number in zip(parts, mix)), Fraction(0))


def plain_is_rates(columns, thing):
    if type(thing) is not tuple or len(thing) != len(columns[0][1]):
        return False
    for rate in thing:
        if type(rate) is not tuple or len(rate) != 2 or not all(type(number) is int for number in rate) or rate[1] < 1:
            return False
        if (value(rate).numerator, value(rate).denominator) != rate:
            return False
    return all(value(gain) <= sum((number * value(rate) for number, rate in zip(row, thing)), Fraction(0))
               for gain, row in columns)


def some_columns(dice):
    """COLUMNS and weights, as the dice tell."""
    many, places = dice.randint(1, 9), dice.randint(0, 5)
    most, high = dice.choice((1, 2, 100)), dice.choice((1, 3, 10 ** 9))
    columns = []
    for _ in range(many):
        gain = cut(dice.randint(-high, dice.choice((0, high))), dice.randint(1, high))
        columns.append((gain, tuple(dice.choice((0, dice.randint(-most, most))) for _ in range(places))))
    weights = tuple(cut(dice.choice((0, dice.randint(0, high))), dice.randint(1, high)) for _ in range(many))
    return tuple(columns), weights


def all_columns():
    dice = random.Random(8)
    told = [some_columns(dice) for _ in range(250)]
    return [*told, *[(columns, (ONE,) * len(columns)) for columns in (TIGHT, LOOSE, WORTHS, BARE, FLAT, FAST)]]


class IsMix(unittest.TestCase):

    def test_mixes(self):
        for columns, right, wrong in (
                (TIGHT, ((2, 1), (4, 2), (10 ** 40, 5 * 10 ** 39)), ((0, 0), (1, 2), (2, 2), (-2, -1), (2, 1, 0), (2,), ())),
                (BARE, ((1, 0, 0), (0, 5, 1), (10 ** 40, 0, 0)), ((0, 0, 0), (-1, 2, 0), (1, 1))),
                (FLAT, ((1, 1, 0, 0), (0, 0, 3, 0), (2, 0, 0, 1)), ((1, 0, 0, 0), (1, 1, 0), (1, 0, 0, 1))),
                (FAST, (), ((1, 1), (0, 0), (3, 1)))):
            self.assertEqual([thing for thing in right if is_mix(columns, thing) is not True], [])
            self.assertEqual([thing for thing in wrong if is_mix(columns, thing) is not False], [])

    def test_values_that_are_none(self):
        for thing in (*JUNK, [2, 1], (True, 1), (2, True), (2, [1]), ((2, 1),), (2, None), ("2", 1), (deep(11), 1)):
            for columns in (TIGHT, BARE, FLAT, (((1, 1), ()),)):
                self.assertIs(is_mix(columns, thing), plain_is_mix(columns, thing), msg=thing)
                if not plain_is_mix(columns, thing):
                    self.assertIs(is_gaining(columns, thing), False)
                    self.assertIs(is_best_mix(columns, (ONE,) * len(columns), thing), False)

    def test_gain(self):
        self.assertEqual([mix_gain(TIGHT, mix) for mix in ((4, 2), (2, 1))], [NOUGHT, NOUGHT])
        self.assertEqual([mix_gain(LOOSE, mix) for mix in ((2, 1), (4, 2), (2 * 10 ** 40, 10 ** 40))],
                         [(1, 2), ONE, (5 * 10 ** 39, 1)])
        self.assertEqual((mix_gain(BARE, (1, 1, 1)), mix_gain(WORTHS, (4, 2))), ((-7, 2), (16, 1)))


class Gaining(unittest.TestCase):

    def test_one_or_the_other(self):
        for columns, _ in all_columns():
            mix = told(gaining, columns)
            own = told(rates, columns)
            self.assertEqual((mix is None) + (own is None), 1)
            if mix is not None:
                self.assertTrue(plain_is_mix(columns, mix))
                self.assertGreater(plain_gain([gain for gain, _ in columns], mix), 0)
                self.assertIs(is_gaining(columns, mix), True)
            else:
                self.assertTrue(plain_is_rates(columns, own))
                self.assertIs(is_rates(columns, own), True)

    def test_without_places(self):
        self.assertEqual(rates(BARE), ())
        self.assertEqual(rates((((0, 1), ()),)), ())
        self.assertRaises(CanNot, gaining, BARE)
        self.assertRaises(CanNot, rates, (*BARE, ((1, 10 ** 9), ())))
        self.assertEqual(gaining((*BARE, ((1, 10 ** 9), ()))), (0, 0, 0, 1))

    def test_no_mix_at_all(self):
        self.assertTrue(plain_is_rates(FAST, rates(FAST)))
        self.assertRaises(CanNot, gaining, FAST)
        self.assertTrue(plain_is_rates(FAST[:1], rates(FAST[:1])))

    def test_one_column(self):
        self.assertEqual(rates((((6, 1), (-4,)),)), ((-3, 2),))
        self.assertRaises(CanNot, rates, (((6, 1), (0,)),))
        self.assertEqual(gaining((((6, 1), (0,)),)), (1,))
        self.assertEqual([is_rates((((0, 1), (0,)),), rates((((0, 1), (0,)),))), is_rates((((0, 1), (0,)),), ((9, 4),))],
                         [True, True])

    def test_noughts(self):
        mix = gaining(FLAT)
        self.assertTrue(plain_is_mix(FLAT, mix))
        self.assertGreater(value(mix_gain(FLAT, mix)), 0)
        self.assertTrue(plain_is_rates(FLAT[1:], rates(FLAT[1:])))

    def test_is_gaining(self):
        self.assertEqual([is_gaining(LOOSE, thing) for thing in ((2, 1), (4, 2), (0, 0), (1, 1), [2, 1])],
                         [True, True, False, False, False])
        self.assertEqual([is_gaining(FLAT, thing) for thing in ((1, 1, 0, 0), (1, 1, 1, 0), (1, 1, 2, 0), (2, 0, 0, 1))],
                         [True, False, False, True])

    def test_many_columns_at_the_bounds(self):
        dice = random.Random(9)
        for high in (0, 10 ** 9):
            columns = [(cut(dice.randint(-10 ** 9, high), dice.randint(1, 10 ** 9)),
                        tuple(dice.randint(-100, 100) for _ in range(12))) for _ in range(60)]
            self.assertNotEqual(told(gaining, columns), told(rates, columns))
            share = told(best_share, columns, [ONE] * 60)
            mix = best_mix(columns, [ONE] * 60)
            self.assertEqual(plain_gain([gain for gain, _ in columns], mix), value(share) * sum(mix))
            self.assertTrue(is_best_mix(columns, [ONE] * 60, mix))

    def test_all_places_lead_nowhere_at_once(self):
        # Many COLUMNS of one direction, so that steps are even.
        columns = [((number, 1), (1, -1, 0)) for number in range(-9, 1)] + [((-number, 1), (-1, 1, 0)) for number in range(9)]
        self.assertTrue(plain_is_rates(columns, rates(columns)))
        columns.append(((1, 1), (-1, 1, 0)))
        self.assertTrue(plain_is_mix(columns, gaining(columns)))


class IsRates(unittest.TestCase):

    def test_rates(self):
        self.assertEqual([is_rates(TIGHT, ((number, 3),)) for number in (-4, -5, -2, 4)], [True, False, False, False])
        self.assertEqual([is_rates(LOOSE, ((number, 2),)) for number in (-3, -5, -1)], [False, False, False])
        self.assertEqual((is_rates(BARE, ()), is_rates((((1, 2), ()),), ())), (True, False))
        self.assertEqual([is_rates(FAST, ((one, 1), (other, 1))) for one, other in ((9, 9), (0, 7), (5, 0), (4, 0))],
                         [True, True, True, False])

    def test_values_that_are_none(self):
        bent = list(variants(((-4, 3),), (True, None, "a", 0, 1, -4, (), (0, 2), (-8, 6), [(-4, 3)], (1, 0), (-4, -3))))
        self.assertGreater(len(bent), 60)
        for thing in (*JUNK, *bent, [(-4, 3)], ([-4, 3],), ((-4, 3), (0, 1))):
            self.assertIs(is_rates(TIGHT, thing), plain_is_rates(TIGHT, thing), msg=thing)


class Shares(unittest.TestCase):

    def test_greatest(self):
        self.assertEqual((best_share(TIGHT, (ONE, ONE)), best_share(LOOSE, (ONE, ONE))), (NOUGHT, (1, 6)))
        self.assertEqual(best_share(BARE, (ONE, ONE, ONE)), NOUGHT)
        self.assertEqual(best_share(BARE, (ONE, NOUGHT, ONE)), (-1, 2))
        self.assertEqual(best_share(BARE, ((1, 4), NOUGHT, (6, 1))), (-1, 2))
        self.assertEqual(best_share(BARE[:1], ((1, 4),)), (-2, 1))
        self.assertEqual(best_share(WORTHS, ((1, 3), NOUGHT)), (12, 1))

    def test_no_share(self):
        self.assertIsNone(best_share(LOOSE, (NOUGHT, NOUGHT)))
        self.assertIsNone(best_share((*BARE, ((1, 1), ())), (ONE, ONE, ONE, NOUGHT)))
        # None comes first: no MIX has a weight, but one gains.
        self.assertIsNone(best_share((((1, 1), (0,)), ((1, 1), (1,))), (NOUGHT, ONE)))
        for columns, weights in ((FAST, (ONE, ONE)), (TIGHT, (NOUGHT, NOUGHT)), (FAST[:1], (ONE,)),
                                 ((((0, 1), (0,)), ((1, 1), (1,))), (NOUGHT, ONE)), (BARE, (NOUGHT, NOUGHT, NOUGHT))):
            self.assertRaises(CanNot, best_share, columns, weights)
            self.assertRaises(CanNot, best_mix, columns, weights)
        self.assertRaises(CanNot, best_mix, LOOSE, (NOUGHT, NOUGHT))

    def test_is_best_mix(self):
        self.assertEqual([is_best_mix(WORTHS, (ONE, ONE), own) for own in ((2, 1), (4, 2), (1, 1), (0, 0), [2, 1])],
                         [True, True, False, False, False])
        self.assertEqual([is_best_mix(BARE, (ONE, NOUGHT, ONE), own) for own in ((1, 0, 0), (1, 7, 0), (0, 1, 0), (1, 0, 1))],
                         [True, True, False, False])
        self.assertEqual([is_best_mix((*BARE, ((1, 1), ())), (ONE, ONE, ONE, NOUGHT), own)
                          for own in ((1, 0, 0, 0), (0, 1, 0, 0), (0, 1, 0, 1), (0, 0, 0, 1))], [False] * 4)

    def test_against_the_judge(self):
        seen = set()
        for columns, weights in all_columns():
            share = told(best_share, columns, weights)
            seen.add((share is None, share == NOUGHT))
            mix = told(best_mix, columns, weights)
            self.assertEqual(mix is None, share is None)
            if mix is not None:
                self.assertTrue(plain_is_mix(columns, mix))
                heavy = plain_gain(weights, mix)
                self.assertGreater(heavy, 0)
                self.assertEqual(plain_gain([gain for gain, _ in columns], mix), value(share) * heavy)
                self.assertIs(is_best_mix(columns, weights, mix), True)
                # RATES for what is left show that no share is above it.
                left = tuple((pair(value(gain) - value(share) * value(weight)), row)
                             for (gain, row), weight in zip(columns, weights))
                self.assertTrue(plain_is_rates(left, rates(left)))
                self.assertEqual(divided(mix_gain(columns, mix), pair(heavy)), share)
        self.assertGreater(len(seen), 2)

    def test_none_or_can_not(self):
        for columns, weights in all_columns():
            light = tuple(column for column, weight in zip(columns, weights) if weight == NOUGHT)
            endless = bool(light) and told(gaining, light) is not None
            heavy = told(gaining, tuple((weight, row) for (_, row), weight in zip(columns, weights))) is not None
            if endless:
                self.assertIsNone(best_share(columns, weights))
            elif not heavy:
                self.assertRaises(CanNot, best_share, columns, weights)
            else:
                self.assertIsNotNone(best_share(columns, weights))


class CraftColumns(unittest.TestCase):

    def test_as_told(self):
        for craft in (*CRAFTS, *diced_crafts(30)):
            payments = tuple((number - 2, 3) if (number - 2) % 3 else (number - 2, 1) for number in range(len(craft[1])))
            best, sorts = best_kinds(craft), let_sorts(craft)
            if not best:
                self.assertRaises(CanNot, craft_columns, craft, payments)
                continue
            said = [(pair(worth(craft, kind) - value(payments[kind[0]])),
                     tuple(taken(craft, kind).count(sort) - made(craft, kind).count(sort) for sort in sorts))
                    for kind in best]
            self.assertEqual(craft_columns(craft, payments), tuple(said))

    def test_no_sorts(self):
        self.assertEqual(craft_columns(LONE, ((1, 1), (-1, 2))), (((-1, 1), ()), ((1, 2), ())))
        self.assertRaises(CanNot, rates, craft_columns(LONE, ((1, 1), (-1, 2))))

    def test_handed_in_again(self):
        columns = craft_columns(MELDS, even(MELDS, (8, 3)))
        self.assertTrue(is_rates(columns, rates(columns)))
        self.assertTrue(is_rates(columns, ((-4, 3),)))
        columns = craft_columns(BORDER, even(BORDER, (1, 1)))
        self.assertTrue(is_gaining(columns, gaining(columns)))

    def test_wrong_payments(self):
        for payments in ((), (ONE,) * 2, (ONE,) * 4, (ONE, ONE, (2, 4)), (ONE, ONE, (1, 0)), (ONE, ONE, 1), (ONE, ONE, None),
                         (ONE, ONE, (1, True)), (ONE, ONE, (1, -1)), (ONE, ONE, (1, 2, 3)), ((), (), ())):
            self.assertRaises(Unfit, craft_columns, TWINS, payments)
        self.assertRaises(Unfit, craft_columns, NEVER, ())
        self.assertRaises(CanNot, craft_columns, NEVER, (ONE,))
        self.assertRaises(CanNot, craft_columns, PASSES, ((-5, 1),))

    def test_the_order_of_errors(self):
        self.assertRaises(TooMany, craft_columns, BEYOND, ())
        self.assertRaises(TooMany, craft_columns, BEYOND, even(BEYOND, ONE))
        self.assertRaises(Unfit, craft_columns, BORDER, ())
        for craft in (*JUNK, (BEYOND[0], (*BEYOND[1], 5))):
            self.assertRaises(Unfit, craft_columns, craft, (ONE,))
        self.assertEqual(craft_columns(CHAIN, even(CHAIN, ONE))[0][0], (-1, 1))


def told(call, *arguments):
    """What is told, None if it can not."""
    try:
        return call(*arguments)
    except CanNot:
        return None


def pair(own):
    return (own.numerator, own.denominator)


if __name__ == "__main__":
    unittest.main()
