"""[14]: PAYMENTS that are enough FOR ALL WEBS, PRICES that show it, BUNDLES that break them, the mean."""

import unittest
from fractions import Fraction

from paidbyheirs.bundles import bundle_deeds, bundle_of, bundle_worth, plan_for
from paidbyheirs.cuts import added, cut, taken_off
from paidbyheirs.errors import CanNot, TooMany, Unfit
from paidbyheirs.let import let_kinds, let_sorts
from paidbyheirs.payments import breaking, even, is_breaking, is_enough, is_mean_bundle, is_prices, mean, mean_bundle, prices
from tests.known import AMPLE, BEYOND, BORDER, CARRY, CHAIN, CRAFTS, DOUBLE, HALF, JUNK, KEPT, LATE, LONE, MELDS, NEVER
from tests.known import PASSES, RELAY, SPROUT, STAIRS, STRAY, TWINS, deep, diced_crafts, variants
from tests.plain import plain_is_bundle, plain_sorts, plain_struck, plain_worth

ONE = (1, 1)
NOUGHT = (0, 1)
LITTLE = (1, 10 ** 6)
WAITS = (0, (0,), (0,))
MAKE, MELD = (0, (), (0,), ((0,),)), (1, (((0,), (0,)), ((0,), (0,))), (0,), ())
HEAP = ((MAKE, 2), (MELD, 1))
ALL = (*CRAFTS, *diced_crafts(60))
OTHERS = (True, False, None, "", 0, 1, -1, (), (0,), (0, 1), (1, 1), (2, 4), (-4, 3), (True, 1), [0, 1])


def value(fraction):
    return Fraction(*fraction)


def plain_pays(payments, bundle):
    return sum((value(payments[kind[0]]) * number for kind, number in bundle), Fraction(0))


def plain_shows(craft, let, payments, thing):
    """Whether PRICES, well formed, show PAYMENTS: of all let KINDS, not only of the best."""
    worths = {sort: value(price) for sort, price in thing}
    for kind in let:
        _, takes, _, makes = plain_sorts(craft, kind)
        asks = plain_worth(craft, kind) + sum((worths[sort] for sort in makes), Fraction(0))
        if asks > value(payments[kind[0]]) + sum((worths[sort] for sort in takes), Fraction(0)):
            return False
    return True


class Enough(unittest.TestCase):

    def test_chain(self):
        # k puts and one look cost k.
        for payments, said in (((NOUGHT, ONE, NOUGHT), True), (((9, 1), NOUGHT, (9, 1)), False),
                               ((NOUGHT, (1, 2), NOUGHT), False),
                               ((NOUGHT, cut(10 ** 6 - 1, 10 ** 6), (10 ** 6, 1)), False),
                               ((NOUGHT, (2, 1), (-1, 10 ** 6)), False), (((-1, 1), ONE, NOUGHT), False)):
            self.check(CHAIN, payments, said)

    def test_just_at_the_border(self):
        for craft, payments in ((CHAIN, (NOUGHT, ONE, NOUGHT)), (MELDS, even(MELDS, (8, 3))), (MELDS, ((4, 1), NOUGHT)),
                                (MELDS, (NOUGHT, (8, 1))), (TWINS, ((6, 1), NOUGHT, NOUGHT)), (TWINS, ((3, 1), NOUGHT, (3, 1))),
                                (TWINS, (NOUGHT, (3, 1), (3, 1))), (KEPT, even(KEPT, (1, 3))), (DOUBLE, even(DOUBLE, (2, 3))),
                                (SPROUT, (NOUGHT, (5, 1), NOUGHT)), (RELAY, (ONE, (2, 1), (3, 1), (12, 1)))):
            self.check(craft, payments, True)
            for row in range(len(payments)):
                less = (*payments[:row], taken_off(payments[row], LITTLE), *payments[row + 1:])
                self.check(craft, less, False)
                more = (*payments[:row], added(payments[row], LITTLE), *payments[row + 1:])
                self.check(craft, more, True)

    def check(self, craft, payments, said):
        """Whether they are enough, and what shows or breaks them, held against the document."""
        self.assertIs(is_enough(craft, payments), said)
        let = plain_struck(craft)[1]
        if said:
            own = prices(craft, payments)
            self.assertEqual(tuple(sort for sort, _ in own), let_sorts(craft))
            self.assertTrue(plain_shows(craft, let, payments, own))
            self.assertIs(is_prices(craft, payments, own), True)
            self.assertRaises(CanNot, breaking, craft, payments)
        else:
            bundle = breaking(craft, payments)
            self.assertTrue(plain_is_bundle(craft, let, bundle))
            self.assertGreater(sum(plain_worth(craft, kind) * number for kind, number in bundle), plain_pays(payments, bundle))
            self.assertIs(is_breaking(craft, payments, bundle), True)
            self.assertRaises(CanNot, prices, craft, payments)

    def test_payments_below_nothing(self):
        self.check(TWINS, ((8, 1), NOUGHT, (-1, 1)), False)
        self.check(TWINS, ((10 ** 6, 1), (10 ** 6, 1), (-1, 10 ** 6)), False)
        self.check(STRAY, ((5, 1), (-9, 1)), True)
        self.check(LATE, (NOUGHT, ONE, NOUGHT, (-10 ** 6, 1)), True)
        self.check(STAIRS, ((-7, 1), NOUGHT, (6, 1), (-7, 1), (-7, 1), NOUGHT), False)
        self.check(STAIRS, ((-7, 1), NOUGHT, (6, 1), (4, 1), (-7, 1), NOUGHT), True)

    def test_no_let_kind(self):
        for craft in (NEVER, PASSES):
            for payments in (even(craft, NOUGHT), even(craft, (-5, 3))):
                self.check(craft, payments, True)
                self.assertEqual(prices(craft, payments), ())
                self.assertEqual([is_prices(craft, payments, own) for own in ((), [], None, ((WAITS, ONE),))],
                                 [True, False, False, False])
                self.assertIs(is_breaking(craft, payments, ()), False)

    def test_no_let_sorts(self):
        self.check(LONE, (NOUGHT, NOUGHT), True)
        self.check(LONE, ((-1, 9), ONE), False)
        self.assertEqual([is_prices(LONE, own, ()) for own in ((NOUGHT, NOUGHT), ((-1, 9), ONE))], [True, False])

    def test_one_or_the_other_for_all_crafts(self):
        for craft in ALL:
            rows = len(craft[1])
            for payments in (even(craft, NOUGHT), even(craft, (3, 2)), even(craft, (-1, 1)), even(craft, (9, 1)),
                             tuple(cut(3 * row - 2, row + 1) for row in range(rows)),
                             tuple(cut(8 - 3 * row, 2) for row in range(rows))):
                self.check(craft, payments, is_enough(craft, payments))


class Prices(unittest.TestCase):

    def test_is_prices(self):
        asked = even(MELDS, (8, 3))
        self.assertEqual([is_prices(MELDS, asked, ((WAITS, own),)) for own in ((-4, 3), ONE, (-1, 1), (-8, 6))],
                         [True, False, False, False])
        loose = even(MELDS, (3, 1))
        self.assertEqual([is_prices(MELDS, loose, ((WAITS, own),)) for own in ((-3, 2), (-1, 1), (-4, 3), (-7, 4), (-2, 3))],
                         [True, True, True, False, False])

    def test_one_for_each_let_sort(self):
        asked = even(TWINS, (2, 1))
        own = prices(TWINS, asked)
        self.assertEqual(len(own), 4)
        for thing in (own[1:], own[:-1], own[::-1], (*own, own[-1]), (*own, ((1, (), ()), NOUGHT)), list(own),
                      (*own[:3], own[2])):
            self.assertIs(is_prices(TWINS, asked, thing), False)

    def test_bent_prices(self):
        asked = even(MELDS, (8, 3))
        bent = list(variants(((WAITS, (-4, 3)),), OTHERS))
        self.assertGreater(len(bent), 200)
        for thing in (*JUNK, *bent, (((False, (0,), (0,)), (-4, 3)),), (((0, (False,), (0,)), (-4, 3)),), (deep(11),)):
            # By repr, as False == 0.
            self.assertIs(is_prices(MELDS, asked, thing), repr(thing) == "(((0, (0,), (0,)), (-4, 3)),)")


class Breaking(unittest.TestCase):

    def test_is_breaking(self):
        self.assertEqual([is_breaking(MELDS, even(MELDS, own), HEAP) for own in ((5, 2), (8, 3), (3, 1), (-1, 1))],
                         [True, False, False, True])
        self.assertIs(is_breaking(MELDS, even(MELDS, taken_off((8, 3), LITTLE)), HEAP), True)
        many = tuple((kind, number * 10 ** 30) for kind, number in HEAP)
        self.assertEqual([is_breaking(MELDS, even(MELDS, own), many) for own in ((5, 2), (8, 3))], [True, False])
        # Worth nothing, it breaks what is below nothing.
        self.assertEqual([is_breaking(LONE, own, (((0, (), (0,), ()), 1),)) for own in (((-1, 2), ONE), (NOUGHT, ONE))],
                         [True, False])

    def test_bent_bundles(self):
        asked = even(MELDS, (5, 2))
        let = plain_struck(MELDS)[1]
        for thing in (*JUNK, *variants(HEAP, OTHERS)):
            said = plain_is_bundle(MELDS, let, thing)
            said = said and sum(plain_worth(MELDS, kind) * number for kind, number in thing) > plain_pays(asked, thing)
            self.assertIs(is_breaking(MELDS, asked, thing), said, msg=thing)


class Means(unittest.TestCase):

    def test_even(self):
        self.assertEqual((even(TWINS, (3, 2)), even(NEVER, (-1, 7)), even(MELDS, [1, 2])),
                         (((3, 2),) * 3, ((-1, 7),), ((1, 2),) * 2))
        self.assertEqual(even(BEYOND, ONE), (ONE,) * len(BEYOND[1]))
        for craft in JUNK:
            self.assertRaises(Unfit, even, craft, ONE)

    def test_mean(self):
        # RELAY: one made, handed on twice, looked at: 9 and 2 and 3 and 4.
        self.assertEqual([mean(craft) for craft in (HALF, SPROUT, STRAY, CARRY, RELAY)],
                         [(1, 2), (5, 2), (5, 1), (3, 2), (9, 2)])
        self.assertEqual([mean(craft) for craft in (NEVER, PASSES)], [NOUGHT, NOUGHT])

    def test_least_that_is_enough(self):
        for craft in ALL:
            own = mean(craft)
            self.assertIs(is_enough(craft, even(craft, own)), True)
            if let_kinds(craft):
                self.assertIs(is_enough(craft, even(craft, taken_off(own, (1, 10 ** 9)))), False)
                bundle = mean_bundle(craft)
                self.assertTrue(plain_is_bundle(craft, plain_struck(craft)[1], bundle))
                self.assertEqual(Fraction(bundle_worth(craft, bundle), bundle_deeds(bundle)), value(own))
                self.assertIs(is_mean_bundle(craft, bundle), True)
            else:
                self.assertEqual(own, NOUGHT)
                self.assertRaises(CanNot, mean_bundle, craft)

    def test_is_mean_bundle(self):
        twice = ((MAKE, 4), (MELD, 2))
        same = (1, (((0,), (0,)), ((0,), ())), (0,), ())
        self.assertEqual([is_mean_bundle(MELDS, own) for own in (HEAP, twice)], [True, True])
        for thing in (((MAKE, 1), (same, 1)), HEAP[:1], (), list(HEAP), None):
            self.assertIs(is_mean_bundle(MELDS, thing), False)
        for thing in (*JUNK, *variants(HEAP, OTHERS)):
            said = thing in (HEAP, twice) and repr(thing) in (repr(HEAP), repr(twice))
            self.assertIs(is_mean_bundle(MELDS, thing), said, msg=thing)
        self.assertIs(is_mean_bundle(NEVER, ()), False)

    def test_of_two_webs(self):
        web = ((0, ()), (1, (0,)), (2, (0,)))
        self.assertIs(is_mean_bundle(TWINS, bundle_of(plan_for(TWINS, web))), True)
        self.assertIs(is_mean_bundle(TWINS, bundle_of(plan_for(TWINS, web[:2]))), False)


class Wrong(unittest.TestCase):

    CALLS = (is_enough, prices, lambda craft, own: is_prices(craft, own, None), breaking,
             lambda craft, own: is_breaking(craft, own, None))

    def test_payments(self):
        for call in self.CALLS:
            for own in ((), (ONE,) * 2, (ONE,) * 4, (ONE, ONE, (2, 4)), (ONE, ONE, (1, 0)), (ONE, 1, ONE), (None, ONE, ONE),
                        (ONE, ONE, (1, -1)), (ONE, ONE, (1, 2, 3)), (ONE, (True, 1), ONE), ((), (), ()), ("", "", "")):
                self.assertRaises(Unfit, call, TWINS, own)
            self.assertRaises(Unfit, call, NEVER, ())

    def test_the_order_of_errors(self):
        for call in self.CALLS:
            self.assertRaises(TooMany, call, BEYOND, ())
            self.assertRaises(TooMany, call, BEYOND, even(BEYOND, ONE))
            self.assertRaises(Unfit, call, BORDER, ())
            for craft in (*JUNK, (BEYOND[0], (*BEYOND[1], 5))):
                self.assertRaises(Unfit, call, craft, ())
        for call in (mean, mean_bundle, lambda craft: is_mean_bundle(craft, None)):
            self.assertRaises(TooMany, call, BEYOND)
            for craft in (*JUNK, (BEYOND[0], (*BEYOND[1], 5))):
                self.assertRaises(Unfit, call, craft)

    def test_as_many_kinds_as_there_may_be(self):
        own = mean(BORDER)
        self.assertIs(is_mean_bundle(BORDER, mean_bundle(BORDER)), True)
        self.assertIs(is_prices(BORDER, even(BORDER, own), prices(BORDER, even(BORDER, own))), True)
        less = even(BORDER, taken_off(own, LITTLE))
        self.assertIs(is_breaking(BORDER, less, breaking(BORDER, less)), True)

    def test_at_the_bounds_of_crafts(self):
        own = mean(AMPLE)
        self.assertIs(is_mean_bundle(AMPLE, mean_bundle(AMPLE)), True)
        for payments in (even(AMPLE, own), even(AMPLE, taken_off(own, LITTLE)),
                         tuple(cut(10 ** 6 - 7 * row, 10 ** 6 - row) for row in range(6)),
                         tuple(cut(10 ** 6 * (3 - row), 1 + row) for row in range(6))):
            Enough.check(self, AMPLE, payments, is_enough(AMPLE, payments))


if __name__ == "__main__":
    unittest.main()
