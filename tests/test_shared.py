"""[18]: what must be shared, so that PAYMENTS stay enough."""

import unittest
from fractions import Fraction

from paidbyheirs.anew import anew_mean, endless_ring, numbered_craft
from paidbyheirs.crafts import new_slots, rows_done
from paidbyheirs.cuts import added, taken_off
from paidbyheirs.errors import CanNot, TooMany, Unfit
from paidbyheirs.manners import cost_anew
from paidbyheirs.payments import even, is_enough, mean
from paidbyheirs.shared import is_enough_with, is_must, lot_enough, must_share
from tests.known import AMPLE, BEYOND, BOTH, CHAIN, CRAFTS, DOUBLE, GROWS, HALF, HIDES, JUNK, KEPT, LABOUR, LONE, MELDS, NEVER, PAIRS
from tests.known import SIXTY, SPROUT, STAIRS, STRAY, TURNS, TWINS, begins, deep, diced_crafts, variants
from tests.plain import powers
from tests.test_guarantees import some_webs

ONE = (1, 1)
NOUGHT = (0, 1)
LITTLE = (1, 10 ** 6)
MUCH = (10 ** 8, 1)
ALL = (*CRAFTS, GROWS, HIDES, TURNS, *diced_crafts(45))
OTHERS = (True, False, None, "", (), 0, 1, -1, (0, 0), (1, 0), (0, 1), (1, 1), (2, 0), (0, False), [0, 1], ((0, 1),))


def without(slots, lot):
    return tuple(pair for pair in slots if pair not in lot)


def told(call, *arguments):
    """What call returns, or the kind of error that it raises."""
    try:
        return call(*arguments)
    except (CanNot, TooMany) as error:
        return type(error)


def some_payments(craft):
    """PAYMENTS that are just enough, a little less, and just enough if some WAITS are done anew."""
    own, slots = mean(craft), new_slots(craft)
    parts = {own, taken_off(own, LITTLE), added(own, (1, 2)), MUCH}
    for some in (slots, slots[:1], slots[1:]):
        more = told(anew_mean, craft, some)
        if isinstance(more, tuple):
            parts |= {more, taken_off(more, LITTLE)}
    payments = [even(craft, part) for part in sorted(parts)]
    payments.append(tuple(added(own, (row, 1)) for row in range(len(craft[1]))))
    return payments


class EnoughWith(unittest.TestCase):

    def test_by_hand(self):
        for craft, payments, some, said in (
                (TWINS, even(TWINS, (2, 1)), (), True), (TWINS, even(TWINS, (2, 1)), ((0, 0),), False),
                (TWINS, (NOUGHT, (3, 1), (3, 1)), new_slots(TWINS), True), (TWINS, ((3, 1), NOUGHT, (3, 1)), ((0, 1),),
                                                                            True),
                (TWINS, ((3, 1), NOUGHT, (3, 1)), ((0, 0),), False), (CHAIN, even(CHAIN, MUCH), ((1, 0),), False),
                (LONE, even(LONE, NOUGHT), ((1, 0),), True), (LONE, even(LONE, (-1, 1)), (), False),
                (MELDS, (NOUGHT, (8, 1)), ((0, 0),), True), (MELDS, ((8, 1), (7, 1)), ((0, 0),), False),
                (NEVER, ((-9, 1),), (), True), (SPROUT, (NOUGHT, (5, 1), NOUGHT), ((1, 0),), False),
                (SPROUT, (NOUGHT, NOUGHT, (5, 1)), ((1, 0),), True), (GROWS, even(GROWS, MUCH), new_slots(GROWS),
                                                                      False),
                (HIDES, even(HIDES, (2, 1)), new_slots(HIDES), True), (STRAY, ((5, 1), (-3, 1)), (), True)):
            self.assertIs(is_enough_with(craft, payments, some), said, msg=(craft, payments, some))

    def test_as_the_numbered_craft_tells(self):
        many = [0, 0]
        for craft in ALL:
            for some in powers(new_slots(craft))[:9]:
                numbered = told(numbered_craft, craft, some)
                endless = told(endless_ring, craft, some) is not CanNot
                for payments in some_payments(craft):
                    if numbered is TooMany:
                        self.assertRaises(TooMany, is_enough_with, craft, payments, some)
                        continue
                    if numbered is CanNot:
                        self.assertIs(is_enough_with(craft, payments, some), not endless)
                        continue
                    said = told(is_enough, numbered[0], tuple(payments[row] for row in numbered[1]))
                    self.assertEqual(told(is_enough_with, craft, payments, some), said)
                    many[said is True] += 1
        self.assertGreater(min(many), 100)

    def test_no_web_costs_more_than_it_pays(self):
        for craft in ALL:
            webs = some_webs(craft)
            for some in powers(new_slots(craft))[:6]:
                costs = [cost_anew(craft, web, some) for web in webs]
                for payments in some_payments(craft):
                    if told(is_enough_with, craft, payments, some) is True:
                        for web, own in zip(webs, costs):
                            self.assertLessEqual(own, sum(Fraction(*payments[row]) for row, _ in web))

    def test_all_shared(self):
        for craft in ALL:
            for payments in some_payments(craft):
                self.assertEqual(is_enough_with(craft, payments, ()), is_enough(craft, payments))

    def test_a_lot_is_all_but_some(self):
        for craft in ALL:
            slots = new_slots(craft)
            for payments in some_payments(craft)[:3]:
                for lot in powers(slots)[:9]:
                    self.assertEqual(told(lot_enough, craft, payments, lot),
                                     told(is_enough_with, craft, payments, without(slots, lot)))

    def test_lots_of_nothing_and_of_all(self):
        self.assertEqual([lot_enough(TWINS, even(TWINS, own), lot) for own in ((2, 1), (3, 1)) for lot in ((),
                                                                                                           new_slots(TWINS))],
                         [False, True, True, True])
        self.assertIs(lot_enough(NEVER, ((-1, 1),), ()), True)


class MustShare(unittest.TestCase):

    def test_by_hand(self):
        for craft, payments, said in (
                (TWINS, (NOUGHT, (3, 1), (3, 1)), [()]), (TWINS, ((3, 1), NOUGHT, (3, 1)), [((0, 0),)]),
                (DOUBLE, even(DOUBLE, MUCH), [((0, 0), (0, 1)), ((1, 0),), ((1, 1),)]), (GROWS, even(GROWS, MUCH),
                                                                                         [((0, 0),), ((1, 1),)]),
                (TURNS, even(TURNS, MUCH), [((0, 0), (4, 0)), ((1, 0), (4, 0)), ((3, 0), (4, 0))]),
                (HIDES, even(HIDES, (2, 1)), [()]),
                (HIDES, even(HIDES, ONE), [((0, 0),)]), (HALF, even(HALF, (1, 2)), [((0, 0),)]),
                (HALF, even(HALF, ONE), [()]),
                (SPROUT, (NOUGHT, (5, 1), NOUGHT), [((1, 0),)]), (STRAY, even(STRAY, (5, 1)), [()]),
                (NEVER, ((-2, 1),), [()])):
            self.assertEqual(must_share(craft, payments), said, msg=(craft, payments))

    def test_all_lots_one_by_one(self):
        many = []
        for craft in ALL:
            slots = new_slots(craft)
            if len(slots) > 6:
                continue
            for payments in some_payments(craft)[::(1 if len(slots) < 4 else 3)]:
                enough = {lot: told(lot_enough, craft, payments, lot) for lot in powers(slots)}
                if TooMany in enough.values():
                    self.check_some(craft, payments, enough)
                    continue
                least = sorted(lot for lot in enough if enough[lot]
                               and not any(enough[without(lot, (pair,))] for pair in lot))
                many.append(len(least))
                if not least:
                    self.assertRaises(CanNot, must_share, craft, payments)
                else:
                    self.assertEqual(must_share(craft, payments), least, msg=(craft, payments))
                for lot in enough:
                    self.assertIs(is_must(craft, payments, lot), lot in least)
                # A LOT with a LOT within that is enough is enough.
                for lot, said in enough.items():
                    self.assertTrue(not said or all(enough[other] for other in enough if set(lot) <= set(other)))
        self.assertGreater(many.count(0), 20)
        self.assertGreater(many.count(1), 80)
        self.assertGreater(len([one for one in many if one > 1]), 10)

    def check_some(self, craft, payments, enough):
        """Some LOTS are too many to tell: what is told is right, and is told by what is not."""
        least = told(must_share, craft, payments)
        if least is TooMany:
            return
        if least is CanNot:
            self.assertIs(enough[new_slots(craft)], False)
            return
        for lot in least:
            self.assertIs(enough[lot], True)
            self.assertEqual([enough[without(lot, (pair,))] for pair in lot], [False] * len(lot))
            self.assertIs(is_must(craft, payments, lot), True)

    def test_a_lot_that_is_told_asks_for_those_without_a_pair(self):
        # Only if the WAITS of one ROW are shared are no more than 60 NUMBERED pairs there; no payment is too small.
        craft = begins(63)
        few = ((1,), (*craft[1][:5], craft[1][-1]))
        self.assertEqual(must_share(few, even(few, MUCH)), [()])
        self.assertRaises(TooMany, must_share, craft, even(craft, MUCH))
        self.assertRaises(TooMany, is_must, craft, even(craft, MUCH), ())
        # Six new slots, all anew more than 60 pairs; so is each LOT of one pair without it.
        self.assertEqual(len(new_slots(SIXTY)), 6)
        more = (SIXTY[0], (*SIXTY[1][:5], (*SIXTY[1][5][:4], (("new", 9, BOTH[::2]), ("new", 5, BOTH[::3])))))
        self.assertTrue(told(numbered_craft, more, new_slots(more)) is TooMany)
        self.assertIs(told(lot_enough, more, even(more, MUCH), ()), TooMany)
        self.assertIs(told(is_must, more, even(more, MUCH), ()), TooMany)
        for pair in new_slots(more):
            self.assertIn(told(is_must, more, even(more, MUCH), (pair,)), (False, TooMany))

    def test_each_told_list_is_new(self):
        must_share(KEPT, even(KEPT, ONE)).clear()
        self.assertEqual(len(must_share(KEPT, even(KEPT, ONE))), 2)


class IsMust(unittest.TestCase):

    def test_bent_lots(self):
        for craft, payments in ((KEPT, even(KEPT, ONE)), (DOUBLE, even(DOUBLE, MUCH)), (TWINS, even(TWINS, (2, 1))),
                                (TWINS, even(TWINS, (3, 1))), (CHAIN, even(CHAIN, (1, 2)))):
            least = told(must_share, craft, payments)
            least = [] if least is CanNot else least
            for own in (*least, new_slots(craft)):
                for thing in (*JUNK, *variants(own, OTHERS), deep(12)):
                    said = any(repr(thing) == repr(lot) for lot in least)
                    self.assertIs(is_must(craft, payments, thing), said, msg=thing)


class Wrong(unittest.TestCase):

    def test_the_order_of_errors(self):
        calls = (lambda craft, own: is_enough_with(craft, own, ()), lambda craft, own: lot_enough(craft, own, ()),
                 must_share,
                 lambda craft, own: is_must(craft, own, None))
        for call in calls:
            for craft in (*JUNK, (BEYOND[0], (*BEYOND[1], 5))):
                self.assertRaises(Unfit, call, craft, ())
            for payments in ((), (ONE,) * 2, (ONE,) * 4, (ONE, ONE, (2, 4)), (ONE, 1, ONE), (ONE, ONE, (1, 0)), None):
                self.assertRaises(Unfit, call, TWINS, payments)
            self.assertRaises(Unfit, call, BEYOND, ())
        for call in calls[2:]:
            self.assertRaises(TooMany, call, BEYOND, even(BEYOND, MUCH))

    def test_more_than_six_new_slots(self):
        self.assertEqual(len(new_slots(AMPLE)), 7)
        for call in (must_share, lambda craft, own: is_must(craft, own, None), lambda craft,
                     own: is_must(craft, own, ())):
            self.assertRaises(TooMany, call, AMPLE, even(AMPLE, NOUGHT))
            self.assertRaises(Unfit, call, AMPLE, even(AMPLE, NOUGHT)[1:])
        # The others do not mind.
        self.assertIs(is_enough_with(AMPLE, even(AMPLE, NOUGHT), ()), False)
        self.assertIs(is_enough_with(AMPLE, even(AMPLE, mean(AMPLE)), ()), True)
        self.assertIs(lot_enough(AMPLE, even(AMPLE, mean(AMPLE)), new_slots(AMPLE)), True)
        six = (AMPLE[0], AMPLE[1][:5])
        self.assertLess(len(new_slots(six)), 7)
        own = even(six, mean(six))
        for lot in must_share(six, own):
            self.assertIs(is_must(six, own, lot), True)

    def test_what_takes_longest(self):
        own = even(LABOUR, (15, 1))
        least = must_share(LABOUR, own)
        self.assertEqual(len(least), 4)
        for lot in least:
            self.assertIs(is_must(LABOUR, own, lot), True)
            self.assertIs(is_must(LABOUR, own, lot[1:]), False)

    def test_payments_that_are_not_enough(self):
        for craft, part in ((TWINS, (3, 2)), (CHAIN, (1, 2)), (MELDS, (5, 2)), (LONE, (-1, 1)), (STRAY, (4, 1)),
                            (PAIRS, ONE)):
            self.assertRaises(CanNot, must_share, craft, even(craft, part))
            for lot in powers(new_slots(craft)):
                self.assertIs(is_must(craft, even(craft, part), lot), False)

    def test_endless_ahead_of_too_many(self):
        self.assertIs(is_enough_with(AMPLE, even(AMPLE, MUCH), new_slots(AMPLE)), False)
        self.assertIs(lot_enough(AMPLE, even(AMPLE, MUCH), ()), False)
        self.assertRaises(TooMany, is_enough_with, begins(61), even(begins(61), MUCH), new_slots(begins(61)))
        self.assertRaises(TooMany, is_enough_with, SIXTY, even(SIXTY, MUCH), new_slots(SIXTY))
        self.assertRaises(TooMany, lot_enough, SIXTY, even(SIXTY, MUCH), ())
        self.assertEqual(rows_done(STAIRS), (1, 2, 3, 5))
        self.assertIs(is_enough_with(STAIRS, even(STAIRS, MUCH), new_slots(STAIRS)), True)
        self.assertEqual(len(BOTH), 4)


if __name__ == "__main__":
    unittest.main()
