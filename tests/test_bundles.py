"""[3], [11]: PLANS and BUNDLES."""

import unittest
from collections import Counter

from paidbyheirs.bundles import begun, bundle_deeds, bundle_of, bundle_rows, bundle_worth, ended, is_begun, is_bundle
from paidbyheirs.bundles import is_ended, is_plan, pending, plan_for, repeated, rest, web_of
from paidbyheirs.errands import kinds_of
from paidbyheirs.errors import CanNot, TooMany, Unfit
from paidbyheirs.kinds import made
from paidbyheirs.ledgers import cost
from paidbyheirs.let import let_kinds, let_sorts
from paidbyheirs.payments import mean_bundle
from tests.known import BEYOND, BORDER, CARRY, CHAIN, CRAFTS, HALF, JUNK, LONE, MELDS, NEVER, RELAY, SHARES, STRAY
from tests.known import TWINS, diced_crafts, diced_webs, variants
from tests.plain import plain_is_bundle, plain_is_plan, plain_pending, plain_struck, plain_worth

MAKE, LEFT, RIGHT = (0, (), (0, 1), ((0,), (1,))), (1, (((0, 1), (0,)),), (), ()), (2, (((0, 1), (1,)),), (), ())
FULL = (0, (), (0, 1), ((0, 1),))
PLAN = ((MAKE, ()), (LEFT, ((0, 0),)), (RIGHT, ((0, 1),)))
TRIO = ((MAKE, 1), (LEFT, 1), (RIGHT, 1))
ALONE = ((0, (), (0,), ((0,),)), ())
WAITS = (0, (0,), (0,))
MELD = (1, (((0,), (0,)), ((0,), (0,))), (0,), ())
OTHERS = (True, False, None, "", 0, 1, 2, -1, (), (0,), (0, 0), (0, 1), (0, None), [0, 0], ((0, 0),))
ALL = (*CRAFTS, *diced_crafts(60))


class IsPlan(unittest.TestCase):

    def test_plans(self):
        for plan in ((), PLAN, PLAN[:1], PLAN[:2], ((MAKE, ()), *PLAN[:2]), ((FULL, ()),), ((FULL, ()), PLAN[0]),
                     (PLAN[0], (LEFT, ((0, 0),)), (RIGHT, ((0, 1),)), (MAKE, ()))):
            self.assertIs(is_plan(TWINS, plan), True)

    def test_givers_stand_ahead(self):
        self.assertIs(is_plan(TWINS, PLAN[1:]), False)
        self.assertIs(is_plan(TWINS, ((LEFT, ((0, 0),)), (MAKE, ()))), False)
        self.assertIs(is_plan(TWINS, ((LEFT, ((1, 0),)), (MAKE, ()))), False)
        self.assertIs(is_plan(TWINS, ((MAKE, ()), (LEFT, ((-1, 0),)))), False)
        self.assertIs(is_plan(TWINS, ((MAKE, ()), (LEFT, ((0, -2),)))), False)

    def test_of_the_shape_and_the_flags_that_are_taken(self):
        one = (0, (), (0,), ((0,),))
        self.assertIs(is_plan(TWINS, ((one, ()), (LEFT, ((0, 0),)))), False)
        self.assertIs(is_plan(TWINS, ((one, ()), (MAKE, ()), (LEFT, ((1, 0),)))), True)
        # SHAPE 0 and SHAPE 1 of RELAY have one slot each: 2 asks for SHAPE 1.
        first, second, third = [(row, () if not row else (((0,), (0,)),), (0,), ((0,),)) for row in range(3)]
        self.assertIs(is_plan(RELAY, ((first, ()), (second, ((0, 0),)), (third, ((1, 0),)))), True)
        self.assertIs(is_plan(RELAY, ((first, ()), (third, ((0, 0),)))), False)

    def test_just_the_part_that_is_taken(self):
        self.assertIs(is_plan(TWINS, ((MAKE, ()), (LEFT, ((0, 1),)))), False)
        self.assertIs(is_plan(TWINS, ((MAKE, ()), (LEFT, ((0, 2),)))), False)
        self.assertIs(is_plan(TWINS, ((MAKE, ()), (LEFT, ((0, None),)))), False)
        for number in (0, 1, 2):
            self.assertIs(is_plan(TWINS, ((FULL, ()), (LEFT, ((0, number),)))), False)
        bare = (1, (((0, 1), ()),), (), ())
        self.assertIs(is_plan(TWINS, ((MAKE, ()), (bare, ((0, None),)), (bare, ((0, None),)))), True)
        self.assertIs(is_plan(TWINS, ((MAKE, ()), (bare, ((0, 0),)))), False)

    def test_no_part_is_given_twice(self):
        self.assertIs(is_plan(TWINS, ((MAKE, ()), (LEFT, ((0, 0),)), (LEFT, ((0, 0),)))), False)
        self.assertIs(is_plan(TWINS, (*PLAN[:2], (MAKE, ()), (LEFT, ((2, 0),)))), True)
        self.assertIs(is_plan(MELDS, (ALONE, (MELD, ((0, 0), (0, 0))))), False)
        self.assertIs(is_plan(MELDS, (ALONE, ALONE, (MELD, ((0, 0), (1, 0))))), True)

    def test_both_places_by_one_version(self):
        one = (1, (((0,), (0,)), ((0,), ())), (0,), ())
        self.assertIs(is_plan(MELDS, (ALONE, (one, ((0, 0), (0, None))))), True)
        craft = ((2, 0), (((), (), 0, 0, (("new", 1, ()), ("new", 2, ()))), ((0, 0), ((1, 1), (0, 0)), 0, 1, ())))
        both = (1, (((0, 1), (0,)), ((0, 1), (1,))), (), ())
        self.assertIs(is_plan(craft, ((MAKE, ()), (both, ((0, 0), (0, 1))))), True)
        self.assertIs(is_plan(craft, ((MAKE, ()), (both, ((0, 1), (0, 0))))), False)
        self.assertEqual(plan_for(craft, ((0, ()), (1, (0, 0)))), ((MAKE, ()), (both, ((0, 0), (0, 1)))))

    def test_values_that_are_none(self):
        for craft in (TWINS, MELDS, NEVER):
            for thing in (*JUNK, [PLAN], list(PLAN), (PLAN,), ((MAKE, []),), ((MAKE,),), ((MAKE, (), ()),), ((MAKE, None),)):
                self.assertIs(is_plan(craft, thing), plain_is_plan(craft, thing), msg=thing)

    def test_bent_plans(self):
        seen = Counter()
        meld = (ALONE, ALONE, (MELD, ((0, 0), (1, 0))))
        for craft, plan in ((TWINS, PLAN), (MELDS, meld)):
            for thing in variants(plan, OTHERS):
                seen[is_plan(craft, thing)] += 1
                self.assertIs(is_plan(craft, thing), plain_is_plan(craft, thing), msg=thing)
        self.assertGreater(seen[True], 3)
        self.assertGreater(seen[False], 800)

    def test_of_kinds_that_are_not_let(self):
        self.assertIs(is_plan(LONE, (((0, (), (0,), ()), ()), ((1, (((0,), ()),), (0,), ((0,),)), ((0, None),)))), True)
        self.assertIs(is_plan(BEYOND, ((MAKE, ()),)), True)
        for craft in JUNK:
            self.assertRaises(Unfit, is_plan, craft, ())


class Plans(unittest.TestCase):

    def test_web_and_pending(self):
        self.assertEqual((web_of(()), pending(())), ((), ()))
        self.assertEqual((web_of(PLAN), pending(PLAN)), (((0, ()), (1, (0,)), (2, (0,))), ()))
        self.assertEqual([pending(PLAN[:many]) for many in range(4)], [(), ((0, 0), (0, 1)), ((0, 1),), ()])
        self.assertEqual(pending(((MAKE, ()), (RIGHT, ((0, 1),)), (MAKE, ()))), ((0, 0), (2, 0), (2, 1)))
        one = (1, (((0,), (0,)), ((0,), ())), (0,), ())
        self.assertEqual(web_of((ALONE, ALONE, (one, ((1, 0), (0, None))))), ((0, ()), (0, ()), (1, (1, 0))))

    def test_plan_for_each_web(self):
        for craft in ALL:
            for web in diced_webs(craft, 4, 7):
                plan = plan_for(craft, web)
                self.assertTrue(plain_is_plan(craft, plan))
                self.assertEqual((web_of(plan), plain_pending(plan)), (web, ()))
                self.assertEqual(tuple(kind for kind, _ in plan), kinds_of(craft, web))
                self.assertEqual(sum(plain_worth(craft, kind) for kind, _ in plan), cost(craft, web))

    def test_plan_for_gives_each_part_to_who_takes_it(self):
        web = ((0, ()), (0, ()), (1, (1, 0)), (3, (2, 0)), (2, (2,)))
        for number, (kind, givers) in enumerate(plan_for(SHARES, web)):
            self.assertEqual(tuple(version for version, _ in givers), web[number][1])
            for (_, part), (version, at) in zip(kind[1], givers):
                self.assertEqual(at is None, part == ())
                if at is not None:
                    self.assertEqual(kinds_of(SHARES, web)[version][3][at], part)

    def test_plan_for_no_web(self):
        for web in (((1, (0,)),), 5, None, ((0, ()), (1, (1,)))):
            self.assertRaises(Unfit, plan_for, CHAIN, web)
        for craft in JUNK:
            self.assertRaises(Unfit, plan_for, craft, ())


class Bundles(unittest.TestCase):

    def test_bundle_of(self):
        self.assertEqual(bundle_of(PLAN), TRIO)
        bare = (1, (((0, 1), ()),), (), ())
        twice = (*PLAN, (bare, ((0, None),)), (MAKE, ()), (RIGHT, ((4, 1),)), (LEFT, ((4, 0),)))
        self.assertEqual(bundle_of(twice), ((MAKE, 2), (bare, 1), (LEFT, 2), (RIGHT, 2)))
        for plan in ((), PLAN[:1], PLAN[:2], (*PLAN, (FULL, ()))):
            self.assertRaises(Unfit, bundle_of, plan)

    def test_numbers(self):
        self.assertEqual((bundle_deeds(TRIO), bundle_rows(TWINS, TRIO), bundle_worth(TWINS, TRIO)), (3, (1, 1, 1), 6))
        heap = ((ALONE[0], 4), (MELD, 2))
        self.assertEqual((bundle_deeds(heap), bundle_rows(MELDS, heap), bundle_worth(MELDS, heap)), (6, (4, 2), 16))
        big = ((ALONE[0], 2 * 10 ** 30), (MELD, 10 ** 30))
        self.assertEqual((bundle_deeds(big), bundle_worth(MELDS, big)), (3 * 10 ** 30, 8 * 10 ** 30))
        self.assertEqual(bundle_rows(LONE, (((0, (), (0,), ()), 3),)), (3, 0))
        self.assertEqual((bundle_rows(BEYOND, ((MAKE, 2),))[0], bundle_worth(BEYOND, ((MAKE, 2),))), (2, 12))
        for call in (bundle_rows, bundle_worth):
            for craft in JUNK:
                self.assertRaises(Unfit, call, craft, TRIO)

    def test_is_bundle(self):
        heap = ((ALONE[0], 4), (MELD, 2))
        less = ((ALONE[0], 2), (MELD, 1))
        self.assertEqual([is_bundle(MELDS, own) for own in (heap, less, (heap[0], less[1]), heap[:1])],
                         [True, True, False, False])
        self.assertIs(is_bundle(TWINS, TRIO), True)
        for thing in (TRIO[::-1], TRIO[:2], (), ((MAKE, 1), *TRIO), list(TRIO)):
            self.assertIs(is_bundle(TWINS, thing), False)
        for number, said in ((2, True), (10 ** 40, True), (0, False), (-1, False), (True, False)):
            self.assertIs(is_bundle(TWINS, tuple((kind, number) for kind, _ in TRIO)), said)

    def test_of_let_kinds_alone(self):
        # What is idle makes and takes nothing here, but is not let.
        kind = (1, (((), ()),), (), ())
        self.assertIs(is_bundle(STRAY, ((kind, 1),)), False)
        self.assertIs(is_bundle(STRAY, (((0, (), (), ()), 2),)), True)
        # In LONE the KIND takes what it makes.
        self.assertIs(is_bundle(LONE, (((1, (((0,), (0,)),), (0,), ((0,),)), 1),)), False)
        self.assertIs(is_bundle(CHAIN, (((1, (((0,), (0,)),), (0,), ((0,),)), 1),)), True)

    def test_bent_bundles(self):
        for craft, bundle in ((TWINS, TRIO), (MELDS, ((ALONE[0], 2), (MELD, 1)))):
            let = plain_struck(craft)[1]
            for thing in (*JUNK, *variants(bundle, OTHERS)):
                self.assertIs(is_bundle(craft, thing), plain_is_bundle(craft, let, thing), msg=thing)


class Begun(unittest.TestCase):

    def test_of_each_sort(self):
        for craft in ALL:
            for sort in let_sorts(craft):
                for sorts in ((sort,), (sort,) * 6, tuple(let_sorts(craft)[:5]) + (sort,)):
                    plan = begun(craft, sorts)
                    self.check(craft, sorts, plan)
                    self.assertIs(is_begun(craft, sorts, plan), True)

    def check(self, craft, sorts, plan):
        self.assertTrue(plain_is_plan(craft, plan))
        let = let_kinds(craft)
        self.assertEqual([kind for kind, _ in plan if kind not in let], [])
        left = Counter(made(craft, plan[version][0])[number] for version, number in plain_pending(plan))
        self.assertEqual(Counter(sorts) - left, Counter())

    def test_of_none(self):
        for craft in CRAFTS:
            self.assertTrue(plain_is_plan(craft, begun(craft, ())))
            self.assertIs(is_begun(craft, (), begun(craft, ())), True)
            self.assertIs(is_begun(craft, (), ()), True)
        self.assertIs(is_begun(TWINS, (), PLAN[:2]), True)
        self.assertIs(is_begun(TWINS, (), ((FULL, ()),)), False)
        self.assertIs(is_begun(TWINS, (), ((FULL, ()), (MAKE, ()))), False)

    def test_of_both_places(self):
        sorts = ((0, (0, 1), (0,)), (0, (0, 1), (1,)), (0, (0, 1), (1,)), (0, (0,), (0,)))
        self.check(TWINS, sorts, begun(TWINS, sorts))
        self.assertEqual([is_begun(TWINS, sorts[:many], ((MAKE, ()), (MAKE, ()))) for many in range(5)],
                         [True, True, True, True, False])
        self.assertEqual([is_begun(TWINS, sorts[:many], PLAN[:1]) for many in range(4)], [True, True, True, False])
        self.assertIs(is_begun(TWINS, sorts[:1], PLAN[:2]), False)

    def test_not_let(self):
        for craft, sorts in ((LONE, (WAITS,)), (TWINS, ((0, (0, 1), (0, 1)),)), (HALF, ((0, (0,), (0,)), (0, (1,), (1,)))),
                             (NEVER, (WAITS,)), (TWINS, ((0, (0,), (0,)), (7, (0,), (0,))))):
            self.assertRaises(CanNot, begun, craft, sorts)
            self.assertIs(is_begun(craft, sorts, ()), False)

    def test_values_that_are_none(self):
        for thing in (*JUNK, [PLAN[0]], PLAN[1:], ((MAKE, ()), (LEFT, ((0, 1),)), (MAKE, ()))):
            self.assertIs(is_begun(TWINS, ((0, (0, 1), (0,)),), thing), False)


class Ended(unittest.TestCase):

    def test_whatever_is_pending(self):
        for craft in ALL:
            let = let_kinds(craft)
            for sort in let_sorts(craft):
                plan = begun(craft, (sort, sort))
                whole = ended(craft, plan)
                self.assertTrue(plain_is_plan(craft, whole))
                self.assertEqual((whole[:len(plan)], plain_pending(whole)), (plan, ()))
                self.assertEqual([kind for kind, _ in whole if kind not in let], [])
                self.assertIs(is_ended(craft, plan, whole), True)

    def test_what_is_whole_already(self):
        self.assertIs(is_ended(TWINS, PLAN, PLAN), True)
        self.assertIs(is_ended(TWINS, PLAN, (*PLAN, *[(MAKE, ()), (LEFT, ((3, 0),)), (RIGHT, ((3, 1),))])), True)
        for craft in CRAFTS:
            self.assertIs(is_ended(craft, (), ended(craft, ())), True)
            self.assertIs(is_ended(craft, (), ()), True)
        self.assertIs(is_ended(TWINS, PLAN, ended(TWINS, PLAN)), True)

    def test_no_others_can_be(self):
        put = (1, (((0,), ()),), (0,), ((0,),))
        lone = (((0, (), (0,), ()), ()), (put, ((0, None),)))
        self.assertRaises(CanNot, ended, LONE, lone)
        self.assertRaises(CanNot, ended, TWINS, ((MAKE, ()), (FULL, ())))
        self.assertIs(is_ended(LONE, lone, lone), False)
        for craft in ALL:
            let, sorts = let_kinds(craft), let_sorts(craft)
            for kind in plain_struck(craft)[0][0] if plain_struck(craft)[0] else []:
                if not kind[1] and not set(made(craft, kind)) <= set(sorts):
                    self.assertNotIn(kind, let)
                    self.assertRaises(CanNot, ended, craft, ((kind, ()),))

    def test_is_ended(self):
        self.assertEqual([is_ended(TWINS, PLAN[:many], PLAN) for many in range(4)], [True] * 4)
        self.assertIs(is_ended(TWINS, PLAN[:1], PLAN[:2]), False)
        self.assertIs(is_ended(TWINS, PLAN, PLAN[:2]), False)
        self.assertIs(is_ended(TWINS, (PLAN[0], (RIGHT, ((0, 1),))), PLAN), False)
        self.assertIs(is_ended(TWINS, ((FULL, ()),), PLAN), False)
        for thing in (*JUNK, list(PLAN), PLAN[1:], (*PLAN, ALONE)):
            self.assertIs(is_ended(TWINS, PLAN[:1], thing), False)

    def test_further_kinds_are_let(self):
        bare = (1, (((), ()),), (), ())
        self.assertIs(is_ended(STRAY, (), (((0, (), (), ()), ()),)), True)
        self.assertIs(is_plan(STRAY, (((0, (), (), ()), ()), (bare, ((0, None),)))), False)


class Repeated(unittest.TestCase):

    def check(self, craft, bundle, times):
        more, rests = rest(craft, bundle)
        for many in times:
            plan = repeated(craft, bundle, many)
            self.assertTrue(plain_is_plan(craft, plan))
            self.assertEqual(plain_pending(plan), ())
            often = Counter(kind for kind, _ in plan)
            for kind, number in bundle:
                self.assertGreaterEqual(often[kind], many * number)
            self.assertEqual(len(plan), many * bundle_deeds(bundle) + more)
            worths = sum(plain_worth(craft, kind) for kind, _ in plan)
            self.assertEqual(worths, many * bundle_worth(craft, bundle) + rests)
            self.assertEqual(cost(craft, web_of(plan)), worths)

    def test_each_number(self):
        put = (1, (((0,), (0,)),), (0,), ((0,),))
        for craft, bundle in ((TWINS, TRIO), (MELDS, ((ALONE[0], 2), (MELD, 1))), (CHAIN, ((put, 1),)),
                              (CARRY, (((1, (((0,), (0,)),), (0,), ((0,),)), 12),)), (LONE, (((1, (((), ()),), (), ()), 5),))):
            self.assertTrue(is_bundle(craft, bundle))
            self.check(craft, bundle, range(1, 21))

    def test_bundles_that_begin_nowhere(self):
        # What it makes it takes itself: all has to be begun and ended.
        put = (1, (((0,), (0,)),), (0,), ((0,),))
        plan = repeated(CHAIN, ((put, 1),), 3)
        self.assertGreater(len(plan), 3)
        self.assertEqual(rest(CHAIN, ((put, 1),))[1], bundle_worth(CHAIN, bundle_of(plan)) - 3)

    def test_means_and_bundles_of_webs(self):
        for craft in ALL:
            bundles = [bundle_of(plan_for(craft, web)) for web in diced_webs(craft, 3, 6) if web]
            if let_kinds(craft):
                bundles.append(mean_bundle(craft))
            for bundle in bundles:
                if bundle_deeds(bundle) <= 12:
                    self.check(craft, bundle, (1, 2, 5, 20))


class Borders(unittest.TestCase):

    def test_too_many(self):
        for call in (lambda craft: is_bundle(craft, None), lambda craft: begun(craft, (5,)), lambda craft: begun(craft, ()),
                     lambda craft: is_begun(craft, (), None), lambda craft: ended(craft, ()),
                     lambda craft: is_ended(craft, (), None), lambda craft: repeated(craft, TRIO, 1),
                     lambda craft: rest(craft, TRIO)):
            self.assertRaises(TooMany, call, BEYOND)
            for craft in (*JUNK, (BEYOND[0], (*BEYOND[1], 5))):
                self.assertRaises(Unfit, call, craft)

    def test_as_many_as_there_may_be(self):
        sorts = let_sorts(BORDER)
        plan = begun(BORDER, sorts)
        self.assertIs(is_begun(BORDER, sorts, plan), True)
        self.assertIs(is_ended(BORDER, plan, ended(BORDER, plan)), True)
        self.assertRaises(CanNot, begun, BORDER, (*sorts, (1, (), ())))
        bundle = mean_bundle(BORDER)
        self.assertIs(is_bundle(BORDER, bundle), True)
        self.assertEqual(len(repeated(BORDER, bundle, 2)), 2 * bundle_deeds(bundle) + rest(BORDER, bundle)[0])


if __name__ == "__main__":
    unittest.main()
