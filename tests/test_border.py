"""[15]: the border of what is enough: the least for one ROW, two ROWS against each other, all corners."""

import unittest
from fractions import Fraction

from paidbyheirs.border import bends, corners, free_rows, is_corner, least_for
from paidbyheirs.crafts import rows_done
from paidbyheirs.cuts import added, cut, taken_off
from paidbyheirs.errors import CanNot, NoRow, TooMany, Unfit
from paidbyheirs.lines import gaining
from paidbyheirs.payments import even, is_enough, mean
from tests.known import AMPLE, BEYOND, BORDER, CARRY, CHAIN, CRAFTS, DOUBLE, FACETS, HALF, JUNK, KEPT, LATE, LONE, MELDS, NEVER, PAIRS
from tests.known import RELAY, SHARES, SPROUT, STAIRS, STRAY, TWINS, deep, diced_crafts, variants

ONE = (1, 1)
NOUGHT = (0, 1)
MUCH = (10 ** 8, 1)
LITTLE = (1, 10 ** 9)
FAIR = ((1, 1), (2, 1), (2, 1))
ALL = (*CRAFTS, *diced_crafts(45))


def value(fraction):
    return Fraction(*fraction)


def turned(payments, row, part):
    return tuple(part if at == row else own for at, own in enumerate(payments))


def some_payments(craft):
    """PAYMENTS about the border of this CRAFT, some of them below 0."""
    own, rows = mean(craft), range(len(craft[1]))
    told = [even(craft, own), even(craft, added(own, (3, 2))), even(craft, taken_off(own, (1, 3)))]
    told.append(tuple(cut(7 * row % 5, 1 + row % 2) for row in rows))
    told.append(tuple(taken_off(added(own, own), cut(3 * row, 2)) for row in rows))
    return told


def is_mixed(points, other):
    """Whether some mixture of points, weights from 0 that come to 1, has at most what the other point has at each place."""
    times = 1
    for own in (*points, other):
        for _, many in own:
            times *= many
    whole = [[number * times // many for number, many in own] for own in (*points, other)]
    rows = [[*own, times] for own in whole[:-1]]
    rows.extend([[int(at == place) for at in range(len(other))] + [0] for place in range(len(other))])
    columns = [(NOUGHT, tuple(row)) for row in rows]
    columns.append((ONE, tuple(-number for number in [*whole[-1], times])))
    try:
        gaining(tuple(columns))
    except CanNot:
        return False
    return True


class LeastFor(unittest.TestCase):

    def test_by_hand(self):
        for craft, payments, row, said in (
                (CHAIN, ((5, 1), (0, 1), (5, 1)), 1, ONE), (CHAIN, ((-7, 1), (1, 1), (0, 1)), 0, NOUGHT),
                (CHAIN, ((0, 1), (9, 1), (-3, 1)), 2, NOUGHT), (TWINS, ((6, 1), (0, 1), (0, 1)), 0, (6, 1)),
                (TWINS, ((7, 2), (0, 1), (9, 1)), 2, (5, 2)), (TWINS, ((9, 1), (3, 1), (3, 1)), 1, NOUGHT),
                (MELDS, ((8, 3), (0, 1)), 1, (8, 3)), (MELDS, ((0, 1), (17, 2)), 0, NOUGHT),
                (SPROUT, ((0, 1), (2, 1), (0, 1)), 2, (3, 1)), (RELAY, ((1, 1), (2, 1), (3, 1), (0, 1)), 3, (12, 1)),
                (STRAY, ((-9, 1), (-9, 1)), 0, (5, 1)), (HALF, ((1, 3), (0, 1)), 1, (2, 3)),
                (CARRY, ((0, 1), (0, 1), (0, 1)), 2, (3, 1))):
            self.assertEqual(least_for(craft, payments, row), said, msg=(craft, payments, row))

    def test_rows_that_are_not_done(self):
        self.assertIsNone(least_for(STRAY, ((5, 1), (0, 1)), 1))
        self.assertRaises(CanNot, least_for, STRAY, ((9, 2), (0, 1)), 1)
        self.assertIsNone(least_for(LATE, ((0, 1), ONE, (0, 1), (-8, 1)), 3))
        self.assertRaises(CanNot, least_for, LATE, ((0, 1), (1, 2), (0, 1), (-8, 1)), 3)
        self.assertEqual(least_for(LATE, ((0, 1), (0, 1), (0, 1), (-8, 1)), 1), ONE)
        # Nothing can be done, so all is enough.
        self.assertIsNone(least_for(NEVER, ((-5, 1),), 0))

    def test_the_least_is_enough_and_a_little_less_is_not(self):
        for craft in ALL:
            for payments in some_payments(craft):
                for row in range(len(payments)):
                    self.check(craft, payments, row)

    def check(self, craft, payments, row):
        if not is_enough(craft, turned(payments, row, MUCH)):
            self.assertRaises(CanNot, least_for, craft, payments, row)
            return
        told = least_for(craft, payments, row)
        if row not in rows_done(craft):
            self.assertIsNone(told)
            self.assertIs(is_enough(craft, turned(payments, row, (-10 ** 8, 1))), True)
            return
        self.assertIs(is_enough(craft, turned(payments, row, told)), True)
        self.assertIs(is_enough(craft, turned(payments, row, taken_off(told, LITTLE))), False)
        self.assertGreaterEqual(value(told), craft[1][row][2])

    def test_what_the_row_pays_does_not_matter(self):
        for part in (NOUGHT, MUCH, (-7, 2)):
            self.assertEqual(least_for(TWINS, turned(FAIR, 0, part), 0), (2, 1))

    def test_at_the_bounds_of_crafts(self):
        for payments in (even(AMPLE, mean(AMPLE)), tuple(cut(10 ** 6 * (6 - row), 1 + row) for row in range(6))):
            for row in range(6):
                self.check(AMPLE, payments, row)
        self.check(BORDER, even(BORDER, mean(BORDER)), 4)


class FreeRows(unittest.TestCase):

    def test_by_hand(self):
        for craft, payments, said in (
                (CHAIN, ((3, 1), (1, 1), (4, 1)), (0, 2)), (CHAIN, ((3, 1), (1, 2), (4, 1)), ()),
                (CHAIN, ((-1, 1), (1, 1), (0, 1)), (0,)), (CHAIN, ((-1, 1), (1, 1), (-2, 1)), ()),
                (MELDS, ((8, 1), (8, 1)), (0, 1)), (MELDS, ((3, 1), (8, 1)), (0,)), (MELDS, ((3, 1), (7, 1)), ()),
                (STRAY, ((5, 1), (3, 1)), (1,)), (STRAY, ((4, 1), (3, 1)), ()), (NEVER, ((-3, 1),), (0,)),
                (LATE, ((0, 1), ONE, (0, 1), (-5, 1)), (0, 2, 3)), (LATE, ((0, 1), (0, 1), (0, 1), (9, 1)), ())):
            self.assertEqual(free_rows(craft, payments), said, msg=(craft, payments))

    def test_each_alone(self):
        for craft in ALL:
            for payments in some_payments(craft):
                said = tuple(row for row in range(len(payments)) if is_enough(craft, turned(payments, row, NOUGHT)))
                self.assertEqual(free_rows(craft, payments), said)


class Bends(unittest.TestCase):

    def test_by_hand(self):
        for craft, payments, rows, said in (
                (CHAIN, (NOUGHT,) * 3, (0, 1), [(NOUGHT, ONE)]), (CHAIN, (NOUGHT,) * 3, (1, 2), [(ONE, NOUGHT)]),
                (TWINS, (NOUGHT,) * 3, (0, 1), [((3, 1), (3, 1)), ((6, 1), NOUGHT)]),
                (TWINS, (NOUGHT, NOUGHT, (3, 1)), (0, 1), [(NOUGHT, (3, 1)), ((3, 1), NOUGHT)]),
                (SPROUT, (NOUGHT,) * 3, (1, 2), [(NOUGHT, (5, 1)), ((5, 1), NOUGHT)]),
                (SPROUT, (NOUGHT, (5, 2), NOUGHT), (0, 2), [(NOUGHT, (5, 2))]),
                (STRAY, ((9, 1), NOUGHT), (1, 0), [])):
            self.assertEqual(bends(craft, payments, *rows), said)

    def test_cannot_ahead_of_nothing_to_tell(self):
        self.assertRaises(CanNot, bends, CHAIN, (NOUGHT,) * 3, 0, 2)
        self.assertRaises(CanNot, bends, TWINS, (NOUGHT, NOUGHT, (-1, 1)), 0, 1)
        self.assertRaises(CanNot, bends, LATE, (NOUGHT, (1, 2), NOUGHT, ONE), 2, 3)
        self.assertEqual(bends(LATE, (NOUGHT, ONE, NOUGHT, ONE), 3, 2), [])
        two = ((1,), (*NEVER[1], *NEVER[1]))
        self.assertEqual(bends(two, (NOUGHT, NOUGHT), 1, 0), [])

    def test_all_that_is_enough(self):
        for craft in (*ALL, AMPLE):
            rows = range(len(craft[1]))
            for payments in some_payments(craft)[:3]:
                for row in rows:
                    for other in rows[row + 1:]:
                        self.check(craft, payments, row, other)

    def check(self, craft, payments, row, other):
        most = turned(turned(payments, row, MUCH), other, MUCH)
        if not is_enough(craft, most):
            self.assertRaises(CanNot, bends, craft, payments, row, other)
            return
        told = bends(craft, payments, row, other)
        if row not in rows_done(craft) or other not in rows_done(craft):
            self.assertEqual(told, [])
            return
        self.assertEqual(bends(craft, payments, other, row), [(q, p) for p, q in reversed(told)])
        points = [(value(p), value(q)) for p, q in told]
        self.assertEqual(points, sorted(set(points)))
        self.assertEqual((told[0][0], told[-1][1]), (least_for(craft, most, row), least_for(craft, most, other)))
        for p, q in told:
            self.assertEqual(least_for(craft, turned(payments, row, p), other), q)
        # Half way between two neighbours is on the border, so between them there is no other; and they bend there.
        slopes = []
        for (p, q), (high, low) in zip(told, told[1:]):
            half = (Fraction(value(p) + value(high), 2), Fraction(value(q) + value(low), 2))
            way = turned(payments, row, (half[0].numerator, half[0].denominator))
            self.assertEqual(value(least_for(craft, way, other)), half[1])
            slopes.append((value(low) - value(q)) / (value(high) - value(p)))
        self.assertEqual(slopes, sorted(set(slopes)))
        self.assertTrue(all(slope < 0 for slope in slopes))


class Corners(unittest.TestCase):

    def test_by_hand(self):
        for craft, said in (
                (TWINS, [(0, 3, 3), (3, 0, 3), (3, 3, 0), (6, 0, 0)]), (LONE, [(0, 0)]), (NEVER, [(0,)]),
                (STRAY, [(5, 0)]),
                (LATE, [(0, 1, 0, 0)]), (SPROUT, [(0, 0, 5), (0, 5, 0)]), (HALF, [(0, 1), (1, 0)]),
                (CARRY, [(0, 0, 3), (2, 0, 1)]), (KEPT, [(0, 0, 1), (0, 1, 0), (1, 0, 0)])):
            told = corners(craft)
            self.assertEqual([tuple(value(part) for part in own) for own in told], said)

    def test_what_is_had_from_two_corners(self):
        craft = ((1, 0), (((), (), 0, 0, (("new", 1, ()),)), ((0, 0), ((0, 0), (1, 0)), 0, 1, ())))
        self.assertEqual(corners(craft), [((0, 1), (2, 1)), ((1, 1), (0, 1))])
        shaped = tuple(cut(number, 3) for number in (1, 5))
        self.assertIs(is_enough(craft, shaped), True)
        self.assertIs(is_mixed(corners(craft), shaped), True)

    def test_enough_exactly_if_a_mixture_pays_at_most_as_much(self):
        many = 0
        for craft in (*ALL, *diced_crafts(160)[45:]):
            done = rows_done(craft)
            if len(done) > 3:
                self.assertRaises(TooMany, corners, craft)
                continue
            many += len(done) > 1
            self.check(craft, done, corners(craft))
        self.assertGreater(many, 30)

    def check(self, craft, done, told):
        self.assertEqual(told, sorted(told, key=lambda own: [value(part) for part in own]))
        for at, own in enumerate(told):
            self.assertTrue(all(part == NOUGHT for row, part in enumerate(own) if row not in done))
            self.assertIs(is_enough(craft, own), True)
            self.assertIs(is_corner(craft, own), True)
            # None is had from the others, so each is one; all that is enough is had from them, so they are all.
            rest = [[other[row] for row in done] for other in (*told[:at], *told[at + 1:])]
            self.assertFalse(rest and done and is_mixed(rest, [own[row] for row in done]))
            for row in done:
                less = turned(own, row, taken_off(own[row], LITTLE))
                self.assertEqual(is_enough(craft, less), is_mixed([[one[at] for at in done] for one in told],
                                                                  [less[at] for at in done]))
        if not done:
            self.assertEqual(told, [even(craft, NOUGHT)])
            return
        for payments in some_payments(craft):
            short = [[one[row] for row in done] for one in told]
            self.assertEqual(is_enough(craft, payments), is_mixed(short, [payments[row] for row in done]))

    def test_the_most_corners(self):
        told = corners(FACETS)
        self.assertEqual(len(told), 11)
        self.check(FACETS, (0, 1, 2), told)

    def test_too_many(self):
        for craft in (PAIRS, AMPLE, RELAY):
            self.assertGreater(len(rows_done(craft)), 3)
            self.assertRaises(TooMany, corners, craft)
            self.assertRaises(TooMany, is_corner, craft, even(craft, ONE))
        self.assertEqual((len(STAIRS[1]), rows_done(STAIRS)), (6, (1, 2, 3, 5)))
        self.assertRaises(TooMany, corners, STAIRS)
        three = (STAIRS[0], STAIRS[1][:5])
        self.assertEqual(rows_done(three), (1, 2, 3))
        self.check(three, (1, 2, 3), corners(three))

    def test_is_corner(self):
        for craft in (TWINS, MELDS, STRAY, NEVER, SHARES[:1] + (SHARES[1][:3],)):
            told = corners(craft)
            for own in told:
                others = (True, False, None, "", (), 0, 1, (0, 1), (1, 1), (3, 1), (2, 2), [0, 1], (False, True))
                for thing in (*JUNK, *variants(own, others), deep(12)):
                    self.assertIs(is_corner(craft, thing), any(repr(thing) == repr(one) for one in told), msg=thing)

    def test_on_the_border_and_no_corner(self):
        for own in (((3, 1), (3, 2), (3, 2)), ((9, 2), (0, 1), (3, 2)), ((7, 1), (0, 1), (0, 1)),
                    ((0, 1), (3, 1), (2, 1))):
            self.assertIs(is_corner(TWINS, own), False)
        self.assertIs(is_corner(STRAY, ((5, 1), (1, 1))), False)
        self.assertIs(is_corner(STRAY, ((5, 1), (-1, 1))), False)

    def test_each_told_list_is_new(self):
        corners(MELDS).clear()
        self.assertEqual(len(corners(MELDS)), 2)


class Wrong(unittest.TestCase):

    PAID = (lambda craft, own: least_for(craft, own, 99), free_rows, lambda craft, own: bends(craft, own, 99, 99))

    def test_the_order_of_errors(self):
        for call in self.PAID:
            self.assertRaises(TooMany, call, BEYOND, ())
            for payments in ((), FAIR[:2], (*FAIR, ONE), ((2, 4), ONE, ONE), (ONE, ONE, (1, 0)), (ONE, ONE, 1)):
                self.assertRaises(Unfit, call, TWINS, payments)
            for craft in (*JUNK, (BEYOND[0], (*BEYOND[1], 5))):
                self.assertRaises(Unfit, call, craft, ())
        for call in (corners, lambda craft: is_corner(craft, None)):
            self.assertRaises(TooMany, call, BEYOND)
            for craft in JUNK:
                self.assertRaises(Unfit, call, craft)

    def test_rows_that_are_none(self):
        less = (NOUGHT,) * 3
        for row in (3, -1, 10 ** 6):
            for call in (lambda: least_for(TWINS, less, row), lambda: bends(TWINS, less, row, 7),
                         lambda: bends(TWINS, less, row, row), lambda: bends(TWINS, less, 2, row)):
                with self.assertRaises(NoRow) as caught:
                    call()
                self.assertEqual(vars(caught.exception), {"number": row})
        # The same ROW twice, ahead of what can not be.
        self.assertRaises(Unfit, bends, CHAIN, less, 2, 2)
        self.assertRaises(Unfit, bends, STRAY, (ONE, ONE), 1, 1)
        self.assertRaises(CanNot, bends, CHAIN, less, 2, 0)


if __name__ == "__main__":
    unittest.main()
