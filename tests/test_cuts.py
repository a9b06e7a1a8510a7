"""[3], [12]: FRACTIONS."""

import random
import unittest
from fractions import Fraction

from paidbyheirs.cuts import added, cut, divided, is_fraction, multiplied, order, taken_off
from paidbyheirs.errors import Unfit
from tests.known import JUNK, deep

SOME = ((0, 1), (1, 1), (-1, 1), (1, 2), (-1, 2), (2, 3), (-7, 4), (10 ** 40, 1), (-(10 ** 40), 3), (1, 10 ** 40),
        (10 ** 40 - 1, 10 ** 40), (3 ** 80, 2 ** 130))


def pair(value):
    return (value.numerator, value.denominator)


class IsFraction(unittest.TestCase):

    def test_fractions(self):
        for thing in SOME:
            self.assertIs(is_fraction(thing), True)

    def test_values_that_are_none(self):
        for thing in ((0, 2), (0, 0), (0, -1), (1, 0), (2, -3), (-2, -3), (2, 4), (-2, 4), (6, 3), (10 ** 40, 10), [1, 2],
                      (True, 1), (1, True), (False, 1), (1,), (), (1, 2, 3), ((1, 2),), ((1,), (2,)), (None, 1), (1, None),
                      ("1", 2), "12", "1/2", None, True, 1, 0, ([1], 2), deep(12), (deep(11), 1)):
            self.assertIs(is_fraction(thing), False, msg=thing)

    def test_junk(self):
        for thing in JUNK:
            self.assertIs(is_fraction(thing), False if thing != (1, 2) else True)


class Cut(unittest.TestCase):

    def test_signs(self):
        self.assertEqual([cut(*own) for own in ((6, 4), (-6, 4), (6, -4), (-6, -4))], [(3, 2), (-3, 2), (-3, 2), (3, 2)])
        self.assertEqual([cut(0, many) for many in (1, -1, 7, -7, 10 ** 40)], [(0, 1)] * 5)
        self.assertEqual((cut(8, 4), cut(8, -4), cut(1, 10 ** 40)), ((2, 1), (-2, 1), (1, 10 ** 40)))

    def test_by_nothing(self):
        for number in (0, 1, -5, 10 ** 40):
            self.assertRaises(Unfit, cut, number, 0)

    def test_each_quotient_is_one(self):
        told = {}
        for number in range(-12, 13):
            for many in [*range(-12, 0), *range(1, 13)]:
                own = cut(number, many)
                self.assertTrue(is_fraction(own))
                self.assertEqual(told.setdefault(Fraction(number, many), own), own)
        self.assertEqual(len(set(told.values())), len(told))


class Sums(unittest.TestCase):

    def test_as_in_python(self):
        for one in SOME:
            for another in SOME:
                mine, theirs = Fraction(*one), Fraction(*another)
                self.assertEqual(added(one, another), pair(mine + theirs))
                self.assertEqual(taken_off(one, another), pair(mine - theirs))
                self.assertEqual(multiplied(one, another), pair(mine * theirs))
                self.assertEqual(order(one, another), (mine > theirs) - (mine < theirs))
                if theirs:
                    self.assertEqual(divided(one, another), pair(mine / theirs))

    def test_by_the_dice(self):
        dice = random.Random(1)
        for _ in range(300):
            one, another = [cut(dice.randint(-10 ** 40, 10 ** 40), dice.randint(1, 10 ** dice.choice((1, 3, 40))))
                            for _ in range(2)]
            mine, theirs = Fraction(*one), Fraction(*another)
            self.assertEqual((added(one, another), taken_off(one, another)), (pair(mine + theirs), pair(mine - theirs)))
            self.assertEqual((multiplied(one, another), divided(one, another)), (pair(mine * theirs), pair(mine / theirs)))
            self.assertEqual(order(one, another), (mine > theirs) - (mine < theirs))

    def test_by_nothing(self):
        for one in SOME:
            self.assertRaises(Unfit, divided, one, (0, 1))
        self.assertEqual(divided((0, 1), (-5, 7)), (0, 1))

    def test_order_of_neighbours(self):
        self.assertEqual([order((10 ** 40 - 1, 10 ** 40), own) for own in ((1, 1), (10 ** 40 - 1, 10 ** 40), (0, 1))],
                         [-1, 0, 1])


if __name__ == "__main__":
    unittest.main()
