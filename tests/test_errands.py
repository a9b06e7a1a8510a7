"""[3], [8]: FLAGS, ERRANDS, PARTS and the KINDS of a WEB's deeds."""

import unittest

from paidbyheirs.errands import errand, flags_of, kinds_of, parts_taken
from paidbyheirs.errors import CanNot, NoSlot, NoVersion, Unfit
from paidbyheirs.ledgers import unforced
from tests.known import CARRY, CHAIN, COPIES, CRAFTS, DOUBLE, JUNK, KEPT, MELDS, PAIRS, RELAY, SHARES, STRAY, TWINS
from tests.known import diced_crafts, diced_webs
from tests.plain import Story, plain_errand, plain_kinds_of

COPIED = ((0, ()), (1, (0,)), (3, (1,)))
# (2, 0) is looked at, wants both of 1, and so what 0 made.
PAIRED = ((0, ()), (3, (0, 0)), (1, (1,)), (2, (0, 2)))


class Errands(unittest.TestCase):

    def test_ends_by_a_look(self):
        self.assertEqual(errand(TWINS, ((0, ()), (1, (0,))), (0, 0)), ((0, 0), (1, 0)))
        self.assertEqual(errand(PAIRS, PAIRED, (2, 0)), ((2, 0), (3, 1)))
        self.assertEqual(errand(MELDS, ((0, ()), (0, ()), (1, (1, 0))), (0, 0)), ((0, 0), (2, 1)))

    def test_ends_by_a_want(self):
        puts = ((0, ()), (1, (0,)), (1, (1,)), (2, (2,)))
        self.assertEqual([errand(CHAIN, puts, (at, 0)) for at in (1, 2)], [((1, 0), (2, 0)), ((2, 0), (3, 0))])
        self.assertEqual([errand(PAIRS, PAIRED, (1, slot)) for slot in (0, 1)], [((1, 0), (2, 0)), ((1, 1), (2, 0))])

    def test_the_first_of_its_wants_that_holds_it(self):
        # (1, 0) wants slot 0 of both elders, which are one.
        self.assertEqual(errand(PAIRS, PAIRED, (0, 0)), ((0, 0), (1, 0)))
        # By the second elder alone: the first holds nothing there.
        craft = ((1,), (((), (), 0, 0, (("none",),)), ((), (), 0, 0, (("new", 1, ()),)),
                        ((0, 0), (), 0, 0, (("new", 1, ((0, 0), (1, 0))),)), ((0,), ((0, 0),), 0, 0, (("none",),))))
        self.assertEqual(errand(craft, ((0, ()), (1, ()), (2, (0, 1)), (3, (2,))), (1, 0)), ((1, 0), (2, 1)))

    def test_the_one_that_wants_it_and_forces_it_first(self):
        tower = ((0, ()), (1, (0,)), (1, (1,)), (2, (2,)))
        self.assertEqual([errand(DOUBLE, tower, wait) for wait in ((0, 0), (0, 1), (1, 1), (2, 0))],
                         [((0, 0), (1, 0)), ((0, 1), (1, 0)), ((1, 1), (2, 0)), ((2, 0), (3, 0))])

    def test_kept_in_several_slots_it_goes_on_in_one(self):
        self.assertEqual(errand(COPIES, COPIED, (0, 0)), ((0, 0), (1, 1), (2, 0)))
        self.assertEqual(parts_taken(COPIES, COPIED), ((), ((0,),), ((1,),)))
        self.assertEqual(kinds_of(COPIES, COPIED), ((0, (), (0,), ((0,),)), (1, (((0,), (0,)),), (0, 1), ((1,),)),
                                                    (3, (((0, 1), (1,)),), (0, 1), ())))

    def test_a_long_way(self):
        web = ((0, ()), *[(1, (at,)) for at in range(70)], (2, (70,)))
        self.assertEqual(errand(CARRY, web, (0, 0)), (*[(at, 0) for at in range(71)], (71, 0)))
        self.assertEqual(errand(RELAY, ((0, ()), (1, (0,)), (2, (1,)), (3, (2,))), (0, 0)),
                         ((0, 0), (1, 0), (2, 0), (3, 0)))

    def test_done_long_behind_by_another_heir(self):
        web = ((0, ()), (1, (0,)), (1, (0,)), (1, (1,)), (2, (2,)), (2, (3,)))
        self.assertEqual(errand(CARRY, web, (0, 0)), ((0, 0), (2, 0), (4, 0)))
        self.assertEqual(parts_taken(CARRY, web), ((), ((),), ((0,),), ((),), ((0,),), ((),)))
        self.assertEqual(flags_of(CARRY, web), ((0,),) * 6)

    def test_never_done(self):
        for wait in ((0, 0), (0, 1), (1, 0), (1, 1)):
            self.assertRaises(CanNot, errand, DOUBLE, ((0, ()), (1, (0,)), (1, (1,))), wait)
        self.assertRaises(CanNot, errand, TWINS, ((0, ()), (1, (0,))), (0, 1))

    def test_wrong_inputs(self):
        web = ((0, ()), (1, (0,)))
        for wait, kind, kept in (((2, 7), NoVersion, {"number": 2}), ((-1, 7), NoVersion, {"number": -1}),
                                 ((1, 2), NoSlot, {"slot": 2}), ((1, -1), NoSlot, {"slot": -1}), ((1, 1), Unfit, {}),
                                 ((0, 0), Unfit, {}), ((1, 0), CanNot, {})):
            with self.assertRaises(kind) as caught:
                errand(KEPT, web, wait)
            self.assertEqual(vars(caught.exception), kept)

    def test_as_plainly_told(self):
        for craft in (*CRAFTS, *diced_crafts(40)):
            for web in diced_webs(craft, 4, 8):
                for wait in Story(craft, web).waits:
                    told = plain_errand(craft, web, wait)
                    if told is None:
                        self.assertRaises(CanNot, errand, craft, web, wait)
                    else:
                        self.assertEqual(errand(craft, web, wait), told)


class Flags(unittest.TestCase):

    def test_nothing_is_a_flag(self):
        self.assertEqual(flags_of(CHAIN, ((0, ()), (1, (0,)))), ((0,), ()))
        self.assertEqual(flags_of(CHAIN, ((0, ()), (1, (0,)), (2, (1,)))), ((0,), (0,), (0,)))
        self.assertEqual(flags_of(PAIRS, ((0, ()), (1, (0,)), (2, (0, 1)))), ((0, 1), (0,), (0, 1)))

    def test_no_slots_and_no_versions(self):
        self.assertEqual(flags_of(STRAY, ((0, ()), (0, ()))), ((), ()))
        for craft in CRAFTS:
            self.assertEqual((flags_of(craft, ()), parts_taken(craft, ()), kinds_of(craft, ())), ((), (), ()))

    def test_in_the_eyes_of_a_longer_web(self):
        web = ((0, ()), (1, (0,)), (2, (0,)))
        self.assertEqual([flags_of(TWINS, web[:many])[0] for many in (1, 2, 3)], [(), (0,), (0, 1)])


class Parts(unittest.TestCase):

    def test_both_elders_one_version(self):
        self.assertEqual(parts_taken(PAIRS, PAIRED), ((), ((0,), ()), ((0, 1),), ((), (0,))))
        both = ((0, ()), (0, ()), (1, (0, 0)), (2, (2,)))
        self.assertEqual(parts_taken(SHARES, both), ((), (), ((0,), ()), ((0,),)))
        web = ((0, ()), (0, ()), (1, (0, 1)), (3, (2, 0)), (2, (3,)))
        self.assertEqual(parts_taken(SHARES, web), ((), (), ((0,), (0,)), ((0, 1), ()), ((0,),)))

    def test_two_parts_of_one_version(self):
        # One deed takes slot 0 by its first place, slot 1 by its second, of one VERSION.
        craft = ((2, 0), (((), (), 0, 0, (("new", 1, ()), ("new", 2, ()))), ((0, 0), ((1, 1), (0, 0)), 0, 1, ())))
        web = ((0, ()), (1, (0, 0)))
        self.assertEqual(parts_taken(craft, web), ((), ((0,), (1,))))
        self.assertEqual(kinds_of(craft, web), ((0, (), (0, 1), ((0,), (1,))), (1, (((0, 1), (0,)), ((0, 1), (1,))), (), ())))

    def test_two_slots_in_one_part(self):
        self.assertEqual(kinds_of(SHARES, ((0, ()), (0, ()), (1, (0, 1)), (2, (2,))))[2:],
                         ((1, (((0,), (0,)), ((0,), (0,))), (0, 1), ((0, 1),)), (2, (((0, 1), (0, 1)),), (0,), ())))


class Kinds(unittest.TestCase):

    def test_what_is_kept_and_not_taken(self):
        web = ((0, ()), (1, (0,)), (2, (1,)), (2, (1,)))
        self.assertEqual(kinds_of(CARRY, web)[2:], ((2, (((0,), (0,)),), (0,), ()), (2, (((0,), ()),), (0,), ())))

    def test_as_plainly_told(self):
        for craft in (*CRAFTS, *diced_crafts(40)):
            for web in diced_webs(craft, 4, 8, seed=3):
                told = plain_kinds_of(craft, web)
                self.assertEqual(kinds_of(craft, web), told)
                self.assertEqual(flags_of(craft, web), tuple(kind[2] for kind in told))
                self.assertEqual(parts_taken(craft, web), tuple(tuple(part for _, part in kind[1]) for kind in told))
                undone = [wait for wait in Story(craft, web).waits if plain_errand(craft, web, wait) is None]
                self.assertEqual(unforced(craft, web), tuple(undone))


class Wrong(unittest.TestCase):

    def test_unfit_ahead_of_all_else(self):
        for call in (flags_of, parts_taken, kinds_of, lambda craft, web: errand(craft, web, (99, 99))):
            for craft in JUNK:
                self.assertRaises(Unfit, call, craft, ())
            for web in (((1, (0,)),), ((0, ()), (1, (1,))), ((0, ()), (3, (0,))), 5, None, "ab", ((False, ()),)):
                self.assertRaises(Unfit, call, CHAIN, web)


if __name__ == "__main__":
    unittest.main()
