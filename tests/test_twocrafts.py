"""[19]: two CRAFTS with the same deeds: TWINS, and how much dearer WEBS are by one than by the other."""

import unittest
from collections import Counter
from fractions import Fraction

from paidbyheirs.crafts import with_cost
from paidbyheirs.cuts import multiplied
from paidbyheirs.errors import CanNot, NoRow, TooMany, Unfit
from paidbyheirs.kinds import all_kinds
from paidbyheirs.ledgers import cost
from paidbyheirs.payments import mean
from paidbyheirs.twocrafts import all_twins, apart_bundle, are_mates, is_apart_bundle, is_never_dearer, is_ratio_bundle
from paidbyheirs.twocrafts import let_twins, ratio, ratio_bundle, row_exchanged, twins_of
from tests.known import AMPLE, BEYOND, BUDDY, CARRY, CHAIN, CRAFTS, DOUBLE, HALF, JUNK, KEPT, LONE, MATE, MELDS, NEVER, PAIRS, RELAY, SHARES
from tests.known import SPROUT, STRAY, TWINS, counting, deep, diced_crafts, diced_mates, diced_webs, paying_at_once, variants
from tests.plain import plain_worth
from tests.plain_twins import plain_all_twins, plain_is_twin_bundle, plain_let_twins, plain_pairings, plain_twin_costs
from tests.plain_twins import plain_twins_of
from tests.test_guarantees import some_webs

NOUGHT, ONE = (0, 1), (1, 1)
UNEVEN = ((2, 0), ((((), (), 0, 0, (("new", 2, ()), ("new", 4, ()))),) + TWINS[1][1:]))
AHEAD = row_exchanged(CHAIN, 1, ((0,), (), 1, 0, (("new", 0, ((0, 0),)),)))
BY_HAND = [(TWINS, UNEVEN), (UNEVEN, TWINS), (CHAIN, AHEAD), (AHEAD, CHAIN), (MELDS, counting(MELDS)),
           (counting(TWINS), TWINS),
           (KEPT, DOUBLE), (DOUBLE, KEPT), (CARRY, counting(CARRY)), (HALF, counting(HALF)), (NEVER, NEVER)]
SAME = [(craft, craft) for craft in (CHAIN, TWINS, MELDS, LONE, STRAY, SPROUT, RELAY, NEVER, HALF)]
ALL = (*BY_HAND, *SAME, *diced_mates(90))
OTHERS = (True, False, None, "", 0, 1, -1, (), (0,), (0, 1), (1, 1), ((), ()), [0])


def told(call, *arguments):
    """What call returns, or the kind of error that it raises."""
    try:
        return call(*arguments)
    except (CanNot, TooMany) as error:
        return type(error)


def few(pairs):
    """Those of these mates that have not too many TWINS for plain trying."""
    return [pair for pair in pairs if told(all_twins, *pair) is not TooMany and len(all_twins(*pair)) < 260]


def some_webs_of(craft):
    return [*some_webs(craft)[-60:], *diced_webs(craft, 4, 11)]


class Mates(unittest.TestCase):

    def test_are_mates(self):
        for craft, other, said in (
                (TWINS, UNEVEN, True), (CHAIN, LONE, False), (KEPT, DOUBLE, True), (KEPT, CHAIN, True),
                (TWINS, CHAIN, False),
                (TWINS, (TWINS[0], TWINS[1][:2]), False), (TWINS, ((2, 0, 0), TWINS[1]), False),
                (PAIRS, counting(PAIRS), True),
                (STRAY, ((0, 0), (STRAY[1][0], ((0,), (), 0, 1, ()))), False),
                (STRAY, ((0, 0), (STRAY[1][0], ((1,), (), 0, 0, ()))), False),
                (SHARES, ((1, 2), (*SHARES[1][:3], ((0, 1), (), 0, 1, (("none",), ("none",))))), False)):
            self.assertEqual((are_mates(craft, other), are_mates(other, craft)), (said, said))
        for craft in CRAFTS:
            self.assertIs(are_mates(craft, craft), True)

    def test_who_are_none(self):
        for call in (all_twins, let_twins, lambda craft, other: twins_of(craft, other, 5), ratio, ratio_bundle,
                     lambda craft, other: is_ratio_bundle(craft, other, None), apart_bundle,
                     lambda craft, other: is_apart_bundle(craft, other, None), is_never_dearer):
            self.assertRaises(Unfit, call, CHAIN, LONE)
            self.assertRaises(Unfit, call, BEYOND, CHAIN)
            for craft in JUNK:
                self.assertRaises(Unfit, call, CHAIN, craft)
                self.assertRaises(Unfit, call, craft, CHAIN)
        for craft in JUNK:
            self.assertRaises(Unfit, are_mates, CHAIN, craft)
            self.assertRaises(Unfit, are_mates, craft, BEYOND)


class Twins(unittest.TestCase):

    def test_parts_are_paired_or_not(self):
        make = [twin for twin in all_twins(TWINS, TWINS) if twin[0] == twin[1] == (0, (), (0, 1), ((0,), (1,)))]
        self.assertEqual([parts for _, _, parts in make], sorted(plain_pairings(((0,), (1,)), ((0,), (1,)))))
        self.assertEqual(len(make), 7)
        self.assertIn((((), (0,)), ((), (1,)), ((0,), ()), ((1,), ())), [parts for _, _, parts in make])

    def test_parts_on_one_side_alone(self):
        none = counting(CHAIN)
        web = ((0, ()), (1, (0,)), (2, (1,)))
        put, look = (1, (((0,), ()),), (0,), ((0,),)), (2, (((0,), (0,)),), (0,), ())
        self.assertEqual(twins_of(CHAIN, none, web)[1:], ((put, (1, (((), ()),), (), ()), (((0,), ()),)),
                                                          (look, (2, (((), ()),), (), ()), ())))
        self.assertEqual(twins_of(none, CHAIN, web)[1], ((1, (((), ()),), (), ()), put, (((), (0,)),)))
        for twin in twins_of(CHAIN, none, web):
            self.assertIn(twin, let_twins(CHAIN, none))

    def test_as_plainly_told(self):
        pairs = few(ALL)
        self.assertGreater(len(pairs), 60)
        for craft, other in pairs:
            self.assertEqual(all_twins(craft, other), plain_all_twins(craft, other))
            self.assertEqual(let_twins(craft, other), plain_let_twins(craft, other))

    def test_of_a_web(self):
        for craft, other in ALL:
            let = told(let_twins, craft, other)
            for web in some_webs_of(craft)[-12:]:
                own = twins_of(craft, other, web)
                self.assertEqual(own, plain_twins_of(craft, other, web))
                self.assertTrue(let is TooMany or set(own) <= set(let))

    def test_a_web_that_is_none(self):
        for web in (None, 5, ((1, ()),), ((0, ()), (1, (1,))), ((0, ()), (9, (0,)))):
            self.assertRaises(Unfit, twins_of, TWINS, UNEVEN, web)

    def test_too_many(self):
        self.assertGreater(len(all_kinds(AMPLE)), 200)
        calls = (all_twins, let_twins, ratio, ratio_bundle, apart_bundle, is_never_dearer,
                 lambda craft, other: is_ratio_bundle(craft, other, None), lambda craft, other: is_apart_bundle(craft,
                                                                                                                other, None))
        for call in calls:
            self.assertRaises(TooMany, call, AMPLE, AMPLE)
            self.assertRaises(TooMany, call, BEYOND, counting(BEYOND))
            self.assertRaises(TooMany, call, counting(BEYOND), BEYOND)
        # Neither of these minds.
        self.assertIs(are_mates(BEYOND, counting(BEYOND)), True)
        web = ((0, ()), (1, (0, 0)))
        self.assertEqual([kind for kind, _, _ in twins_of(BEYOND, BEYOND, web)],
                         [kind for _, kind, _ in twins_of(BEYOND, BEYOND, web)])
        self.assertEqual(row_exchanged(BEYOND, 0, BEYOND[1][0]), BEYOND)

    def test_just_as_many_as_there_may_be(self):
        rows = tuple([((), (), 1, 0, slots) for slots in ((("new", 1, ()), ("new", 2, ())),
                                                          (("new", 1, ()), ("none",)), (("none",), ("none",)))])
        self.assertEqual([len(all_twins(((2,), (row,)), ((2,), (row,)))) for row in rows], [52, 5, 1])
        most = ((2,), rows[:1] * 28 + rows[1:2] * 8 + rows[2:] * 4)
        self.assertEqual(len(all_twins(most, most)), 1500)
        more = ((2,), (*most[1], rows[2]))
        self.assertRaises(TooMany, all_twins, more, more)
        # No look asks for these WAITS: each deed costs 1.
        self.assertEqual((ratio(most, most), ratio(most, counting(most)), len(let_twins(most, most))), (ONE, ONE, 40))


class Ratio(unittest.TestCase):

    def test_by_hand(self):
        for craft, other, said in (
                (TWINS, UNEVEN, (3, 2)), (UNEVEN, TWINS, (4, 3)), (CHAIN, AHEAD, ONE), (AHEAD, CHAIN, CanNot),
                (counting(MELDS), MELDS, CanNot),
                (MELDS, counting(MELDS), (8, 3)), (counting(STRAY), STRAY, (1, 5)), (STRAY, counting(STRAY), (5, 1)),
                (NEVER, NEVER, NOUGHT),
                (LONE, counting(LONE), NOUGHT), (counting(LONE), LONE, CanNot), (LONE, LONE, NOUGHT),
                (TWINS, TWINS, ONE),
                (TWINS, paying_at_once(TWINS), ONE), (KEPT, DOUBLE, ONE), (with_cost(CARRY, 0, 0, 7), CARRY, (8, 3))):
            self.assertEqual(told(ratio, craft, other), said)

    def test_a_craft_beside_itself(self):
        for craft in (*CRAFTS, *diced_crafts(40)):
            own = told(ratio, craft, craft)
            if own is not TooMany:
                costs = any(cost(craft, web) for web in some_webs_of(craft))
                self.assertEqual(own, ONE if mean(craft) != NOUGHT else NOUGHT)
                self.assertTrue(own == ONE or not costs)
                self.assertIs(is_never_dearer(craft, craft), True)

    def test_beside_one_that_counts_deeds(self):
        for craft in (*CRAFTS, *diced_crafts(60)):
            own = told(ratio, craft, counting(craft))
            if own is not TooMany:
                self.assertEqual(own, mean(craft))

    def test_beside_one_that_pays_at_once(self):
        for craft in (*CRAFTS, *diced_crafts(60)):
            self.assertIn(told(is_never_dearer, craft, paying_at_once(craft)), (True, TooMany))

    def test_no_web_costs_more(self):
        many = Counter()
        for craft, other in ALL:
            own = told(ratio, craft, other)
            many[own if isinstance(own, type) else own == NOUGHT] += 1
            if isinstance(own, tuple):
                for web in some_webs_of(craft):
                    self.assertLessEqual(cost(craft, web), Fraction(*own) * cost(other, web))
            if own is CanNot:
                self.assertIs(is_apart_bundle(craft, other, apart_bundle(craft, other)), True)
                self.assertRaises(CanNot, ratio_bundle, craft, other)
                self.assertIs(is_never_dearer(craft, other), False)
            elif own is not TooMany:
                self.assertRaises(CanNot, apart_bundle, craft, other)
                self.assertIs(is_never_dearer(craft, other), Fraction(*own) <= 1)
        self.assertGreater(min(many[CanNot], many[False]), 15)
        self.assertGreater(many[True], 1)

    def test_costs_many_times_as_much(self):
        """All costs of one CRAFT times a number: the ratio times that, or by that."""
        for craft, other in few(ALL)[:60]:
            own = told(ratio, craft, other)
            if isinstance(own, tuple):
                self.assertEqual(ratio(dearer(craft, 6), other), multiplied(own, (6, 1)))
                self.assertEqual(ratio(craft, dearer(other, 4)), multiplied(own, (1, 4)))


def dearer(craft, times):
    """craft with all costs so many times as high."""
    rows = []
    for elders, looks, own, shape, slots in craft[1]:
        slots = tuple((slot[0], slot[1] * times, slot[2]) if slot[0] == "new" else slot for slot in slots)
        rows.append((elders, looks, own * times, shape, slots))
    return (craft[0], tuple(rows))


class Bundles(unittest.TestCase):

    def test_its_own_judge(self):
        for craft, other in few(ALL):
            let = plain_let_twins(craft, other)
            own = told(ratio, craft, other)
            bundle = told(ratio_bundle, craft, other)
            if bundle is CanNot:
                # Nothing costs something by other, or there is no ratio.
                self.assertTrue(own in (CanNot, NOUGHT))
                self.assertTrue(own is CanNot or mean(other) == NOUGHT)
            else:
                self.check(craft, other, let, bundle)
                self.assertIs(is_ratio_bundle(craft, other, bundle), True)
                self.assertIs(is_apart_bundle(craft, other, bundle), False)
                costs, likes = plain_twin_costs(craft, other, bundle)
                self.assertEqual(Fraction(costs, likes), Fraction(*own))
            apart = told(apart_bundle, craft, other)
            if apart is not CanNot:
                self.check(craft, other, let, apart)
                self.assertIs(is_apart_bundle(craft, other, apart), True)
                self.assertIs(is_ratio_bundle(craft, other, apart), False)
                costs, likes = plain_twin_costs(craft, other, apart)
                self.assertEqual((costs > 0, likes), (True, 0))

    def check(self, craft, other, let, bundle):
        self.assertTrue(plain_is_twin_bundle(craft, other, let, bundle))

    def test_those_of_webs(self):
        """The TWINS of a WEB are a TWIN BUNDLE that costs what the WEB does."""
        for craft, other in few(ALL)[:50]:
            own, let = told(ratio, craft, other), plain_let_twins(craft, other)
            for web in some_webs_of(craft)[-8:]:
                bundle = tuple(sorted(Counter(twins_of(craft, other, web)).items()))
                costs = cost(craft, web), cost(other, web)
                if web:
                    self.assertTrue(plain_is_twin_bundle(craft, other, let, bundle))
                    self.assertEqual(plain_twin_costs(craft, other, bundle), costs)
                said = isinstance(own, tuple) and costs[1] > 0 and Fraction(*costs) == Fraction(*own)
                self.assertIs(is_ratio_bundle(craft, other, bundle), said)
                self.assertIs(is_apart_bundle(craft, other, bundle), costs[0] > 0 and costs[1] == 0)

    def test_bent_bundles(self):
        for craft, other in ((TWINS, UNEVEN), (CHAIN, AHEAD), (STRAY, counting(STRAY))):
            bundle, let, own = ratio_bundle(craft, other), plain_let_twins(craft, other), ratio(craft, other)
            for thing in (*JUNK, *variants(bundle, OTHERS), deep(12)):
                said = plain_is_twin_bundle(craft, other, let, thing)
                if said:
                    costs, likes = plain_twin_costs(craft, other, thing)
                    said = likes > 0 and Fraction(costs, likes) == Fraction(*own)
                self.assertIs(is_ratio_bundle(craft, other, thing), said, msg=thing)
        bundle, let = apart_bundle(AHEAD, CHAIN), plain_let_twins(AHEAD, CHAIN)
        for thing in (*JUNK, *variants(bundle, OTHERS), deep(12)):
            said = plain_is_twin_bundle(AHEAD, CHAIN, let, thing)
            if said:
                costs, likes = plain_twin_costs(AHEAD, CHAIN, thing)
                said = costs > 0 and likes == 0
            self.assertIs(is_apart_bundle(AHEAD, CHAIN, thing), said, msg=thing)

    def test_twins_that_are_not_let(self):
        make = (0, (), (0, 1), ((0, 1),))
        self.assertIs(is_apart_bundle(TWINS, counting(TWINS), (((make, (0, (), (), ()), (((0, 1), ()),)), 1),)), False)
        # A dear deed and nothing by other, but ratio asks for something.
        self.assertIs(is_ratio_bundle(LONE, LONE, ((((0, (), (0,), ()),) * 2 + ((),), 1),)), False)
        self.assertEqual(plain_worth(LONE, (0, (), (0,), ())), 0)

    def test_numbers_as_great_as_one_likes(self):
        bundle = tuple((twin, number * 10 ** 30) for twin, number in ratio_bundle(TWINS, UNEVEN))
        self.assertIs(is_ratio_bundle(TWINS, UNEVEN, bundle), True)


class RowExchanged(unittest.TestCase):

    def test_by_hand(self):
        like = ((0,), ((0, 1), (0, 0)), 9, 1, ())
        self.assertEqual(row_exchanged(TWINS, 1, like), (TWINS[0], (TWINS[1][0], like, TWINS[1][2])))
        for craft in CRAFTS:
            for number, row in enumerate(craft[1]):
                self.assertEqual(row_exchanged(craft, number, row), craft)
                self.assertIs(are_mates(craft, row_exchanged(craft, number, (*row[:2], 7, *row[3:]))), True)

    def test_wrong_inputs(self):
        for row in (3, -1, 10 ** 6):
            with self.assertRaises(NoRow) as caught:
                row_exchanged(TWINS, row, None)
            self.assertEqual(vars(caught.exception), {"number": row})
        for like in (*JUNK, ((1,), (), 0, 1, ()), ((), (), 0, 1, ()), ((0, 0), (), 0, 1, ()),
                     ((0,), (), 0, 0, (("none",), ("none",))),
                     ((0,), (), 0, 1, (("none",),)), ((0,), ((0, 2),), 0, 1, ()), ((0,), (), -1, 1, ()),
                     ((0,), ((0, 0), (0, 0)), 0, 1, ())):
            self.assertRaises(Unfit, row_exchanged, TWINS, 1, like)
        for craft in JUNK:
            self.assertRaises(Unfit, row_exchanged, craft, 9, None)


class Slow(unittest.TestCase):

    def test_more_than_a_thousand_twins(self):
        self.assertEqual((len(let_twins(MATE, BUDDY)), ratio(MATE, BUDDY)), (1282, (3, 1)))
        bundle = ratio_bundle(MATE, BUDDY)
        self.assertIs(is_ratio_bundle(MATE, BUDDY, bundle), True)
        costs, likes = plain_twin_costs(MATE, BUDDY, bundle)
        self.assertEqual(costs, 3 * likes)
        self.assertIs(is_never_dearer(MATE, BUDDY), False)
        for web in diced_webs(MATE, 6, 40):
            self.assertLessEqual(cost(MATE, web), 3 * cost(BUDDY, web))
            self.assertEqual(twins_of(MATE, BUDDY, web), plain_twins_of(MATE, BUDDY, web))


if __name__ == "__main__":
    unittest.main()
