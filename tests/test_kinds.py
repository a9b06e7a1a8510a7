"""[3], [9]: KINDS, their worth, what they take and make."""

import unittest

import paidbyheirs.kinds
from paidbyheirs.errors import TooMany, Unfit
from paidbyheirs.kinds import all_kinds, is_kind, made, taken, worth
from tests.known import BEYOND, BORDER, CARRY, CHAIN, COPIES, CRAFTS, JUNK, LATE, MELDS, NEVER, PAIRS, PASSES, SHARES
from tests.known import STAIRS, STRAY, TWINS, diced_crafts, variants
from tests.plain import plain_all_kinds, plain_is_kind, plain_sorts

PUT = (1, (((0,), (0,)),), (0,), ((0,),))
MAKE = (0, (), (0, 1), ((0,), (1,)))
MELD = (1, (((0,), (0,)), ((0,), (0,))), (0,), ())
JOIN = (1, (((0,), (0,)), ((0,), (0,))), (0, 1), ((0, 1),))


class IsKind(unittest.TestCase):

    def each(self, craft, right, wrong):
        self.assertEqual([thing for thing in right if is_kind(craft, thing) is not True], [])
        self.assertEqual([thing for thing in wrong if is_kind(craft, thing) is not False], [])

    def test_looks_are_in_flags(self):
        self.each(TWINS, [(1, ((flags, ()),), (), ()) for flags in ((0,), (0, 1))],
                  [(1, ((flags, ()),), (), ()) for flags in ((), (1,))])

    def test_slots_without_a_wait_are_in_flags(self):
        self.each(CHAIN, [(0, (), (0,), ())], [(0, (), (), ()), (0, (), (0,), ((0,),))])

    def test_kept_slots_are_in_flags_as_what_they_keep_is(self):
        self.each(CARRY, [(1, ((own, ()),), own, ()) for own in ((), (0,))],
                  [(1, (((0,), ()),), (), ()), (1, (((), ()),), (0,), ())])
        self.each(PASSES, [(0, (((1,), ()),), (), ()), (0, (((0,), ()),), (0, 1), ())],
                  [(0, (((1,), ()),), (0,), ()), (0, (((0,), ()),), (1,), ())])

    def test_what_a_new_one_wants_is_in_flags(self):
        self.each(CHAIN, [(1, (((), ()),), (), ()), (1, (((0,), ()),), (), ()), (1, (((0,), ()),), (0,), ((0,),))],
                  [(1, (((), ()),), (0,), ((0,),))])

    def test_an_errand_that_is_looked_at_ends(self):
        # ROW 3 looks at slot 1 and keeps it.
        self.each(COPIES, [(3, (((0, 1), (1,)),), (0, 1), ())],
                  [(3, (((0, 1), (1,)),), (0, 1), ((0,),)), (3, (((0, 1), ()),), (0, 1), ((0,),))])

    def test_an_errand_that_is_wanted_and_kept_ends_or_goes_on(self):
        # ROW 2 wants both slots and keeps slot 1.
        full = ((0, 1),)
        self.each(COPIES, [(2, ((*full, (1,)),), (0, 1), parts) for parts in (((0,),), ((0, 1),), ((0,), (1,)))],
                  [(2, ((*full, (1,)),), (0, 1), parts) for parts in ((), ((1,),))])
        self.each(COPIES, [(2, ((*full, (1,)),), (1,), ((1,),))], [(2, ((*full, part),), (1,), ()) for part in ((0,), (1,))])

    def test_it_goes_on_in_one_slot(self):
        self.each(PASSES, [(0, (((0,), (0,)),), (0, 1), parts) for parts in (((0,),), ((1,),))],
                  [(0, (((0,), (0,)),), (0, 1), parts) for parts in ((), ((0, 1),), ((0,), (1,)))])

    def test_by_the_place_by_which_it_is_kept(self):
        self.each(SHARES, [JOIN, (1, JOIN[1], (0, 1), ((0,), (1,))), (1, (((0,), ()), ((0,), (0,))), (0, 1), ((1,),))],
                  [(1, (((0,), ()), ((0,), (0,))), (0, 1), ((0,),)), (1, JOIN[1], (0, 1), ((0,),))])

    def test_parts_have_each_new_one_and_no_slot_twice(self):
        self.each(TWINS, [MAKE, (0, (), (0, 1), ((0, 1),)), (0, (), (1,), ((1,),)), (0, (), (), ())],
                  [(0, (), (0, 1), parts) for parts in ((), ((0,),), ((1,),), ((0,), (0, 1)), ((0, 1), (1,)),
                                                        ((0,), (0,), (1,)), ((1,), (0,)), ((1, 0),), ((), (0, 1)),
                                                        ((0, 0, 1),), ((0, 1, 2),), ((0,), (1, 1)))])

    def test_values_that_are_none(self):
        for craft in (CHAIN, TWINS, SHARES, NEVER):
            for thing in (*JUNK, (0, (), (), ()), (-1, (), (), ()), (9, (), (), ()), (True, (((0,), ()),), (), ())):
                self.assertIs(is_kind(craft, thing), plain_is_kind(craft, thing))

    def test_bent_kinds(self):
        others = (True, False, None, "", "0", 0, 1, 2, -1, (), (0,), (1,), [0], (0, 1), (1, 0), (0, 0), ((0,),), (True,),
                  10 ** 40)
        for craft, kind in ((CHAIN, PUT), (TWINS, MAKE), (SHARES, JOIN), (MELDS, MELD)):
            self.assertIs(is_kind(craft, kind), True)
            bent = list(variants(kind, others))
            self.assertGreater(len(bent), 200)
            for thing in bent:
                self.assertIs(is_kind(craft, thing), plain_is_kind(craft, thing), msg=thing)

    def test_no_craft(self):
        for craft in JUNK:
            self.assertRaises(Unfit, is_kind, craft, PUT)
            self.assertRaises(Unfit, is_kind, craft, None)


class AllKinds(unittest.TestCase):

    def test_of_no_elder(self):
        self.assertEqual(all_kinds(TWINS)[:5], [(0, (), (), ()), (0, (), (0,), ((0,),)), (0, (), (0, 1), ((0,), (1,))),
                                                (0, (), (0, 1), ((0, 1),)), (0, (), (1,), ((1,),))])
        self.assertEqual(all_kinds(STRAY), [(0, (), (), ()), (1, (((), ()),), (), ())])

    def test_idle_rows_have_kinds(self):
        self.assertEqual(all_kinds(NEVER), [(0, (((), ()),), (0,), ()), (0, (((0,), ()),), (0,), ())])
        self.assertEqual(all_kinds(LATE)[7:], [(3, (((0,), ()),), (0,), ()), (3, (((0,), (0,)),), (0,), ())])
        self.assertEqual(sorted({kind[0] for kind in all_kinds(STAIRS)}), [0, 1, 2, 3, 4, 5])

    def test_as_plainly_told(self):
        for craft in (*CRAFTS, *diced_crafts(80)):
            self.assertEqual(all_kinds(craft), plain_all_kinds(craft))

    def test_shapes_of_three_slots(self):
        craft = ((3,), (((0,), ((0, 1),), 1, 0, (("new", 1, ((0, 0), (0, 2))), ("kept", 0, 2), ("kept", 0, 0))),
                        ((), (), 0, 0, (("new", 1, ()), ("new", 2, ()), ("new", 3, ())))))
        self.assertEqual(all_kinds(craft), plain_all_kinds(craft))

    def test_the_border(self):
        self.assertEqual(len(all_kinds(BORDER)), 1500)
        self.assertRaises(TooMany, all_kinds, BEYOND)
        self.assertRaises(TooMany, all_kinds, ((4,), (((), (), 0, 0, (("new", 0, ()),) * 4),
                                                      ((0, 0), (), 0, 0, (("new", 0, ()),) * 4))))

    def test_the_others_raise_no_too_many(self):
        kind = (0, (), (0, 1), ((0,), (1,)))
        self.assertIs(is_kind(BEYOND, kind), True)
        self.assertEqual((worth(BEYOND, kind), taken(BEYOND, kind)), (6, []))
        self.assertEqual(made(BEYOND, kind), [(0, (0, 1), (0,)), (0, (0, 1), (1,))])
        self.assertRaises(Unfit, worth, BEYOND, (0, (), (0, 1), ()))

    def test_the_bound_is_the_one_of_the_document(self):
        self.assertEqual(paidbyheirs.kinds.MOST_KINDS, 1500)

    def test_no_craft(self):
        for craft in JUNK:
            self.assertRaises(Unfit, all_kinds, craft)


class Worths(unittest.TestCase):

    def test_worth(self):
        self.assertEqual([worth(TWINS, kind) for kind in all_kinds(TWINS)[:6]], [0, 3, 6, 6, 3, 0])
        self.assertEqual([worth(RICH, (0, (), flags, parts)) for flags, parts in
                          (((), ()), ((0,), ((0,),)), ((1,), ((1,),)), ((0, 1), ((0, 1),)))], [5, 12, 105, 112])

    def test_what_is_kept_costs_nothing(self):
        self.assertEqual((worth(CARRY, (1, (((0,), (0,)),), (0,), ((0,),))), worth(SHARES, JOIN)), (0, 2))

    def test_taken_place_by_place(self):
        self.assertEqual(taken(MELDS, MELD), [(0, (0,), (0,)), (0, (0,), (0,))])
        self.assertEqual(taken(MELDS, (1, (((0,), ()), ((0,), (0,))), (0,), ())), [(0, (0,), (0,))])
        kind = (2, (((0, 1), (0,)), ((0,), (0,))), (0, 1), ())
        self.assertEqual(taken(PAIRS, kind), [(0, (0, 1), (0,)), (1, (0,), (0,))])
        self.assertEqual(taken(SHARES, (3, (((0, 1), (1,)), ((0,), ())), (0, 1), ())), [(1, (0, 1), (1,))])

    def test_made_part_by_part(self):
        self.assertEqual(made(TWINS, MAKE), [(0, (0, 1), (0,)), (0, (0, 1), (1,))])
        self.assertEqual((made(SHARES, JOIN), made(MELDS, MELD)), ([(1, (0, 1), (0, 1))], []))

    def test_as_plainly_told(self):
        for craft in (*CRAFTS, *diced_crafts(30)):
            for kind in all_kinds(craft):
                _, takes, _, makes = plain_sorts(craft, kind)
                self.assertEqual((taken(craft, kind), made(craft, kind)), (takes, makes))
                slots = craft[1][kind[0]][4]
                cost = sum(slots[slot][1] for slot in kind[2] if slots[slot][0] == "new")
                self.assertEqual(worth(craft, kind), craft[1][kind[0]][2] + cost)

    def test_no_kind(self):
        for call in (worth, taken, made):
            for kind in ((0, (), (1,), ()), (0, (), (0, 1), ((0, 1), (1,))), (1, (), (), ()), (7, (), (), ()), PUT,
                         (0, (), (0, 1)), (), (0, (), (True,), ((True,),))):
                self.assertRaises(Unfit, call, TWINS, kind)
            for craft in JUNK:
                self.assertRaises(Unfit, call, craft, PUT)


RICH = ((2,), (((), (), 5, 0, (("new", 7, ()), ("new", 100, ()))),))


if __name__ == "__main__":
    unittest.main()
