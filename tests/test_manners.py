"""[3], [7]: what deeds pay if WAITS are done anew, or at once."""

import unittest

from paidbyheirs.crafts import new_slots
from paidbyheirs.errors import NoSlot, NoVersion, Unfit
from paidbyheirs.ledgers import paid
from paidbyheirs.manners import again, cost_anew, cost_at_once, paid_anew, paid_at_once
from tests.known import CHAIN, COPIES, CRAFTS, DOUBLE, JUNK, KEPT, MELDS, PAIRS, STRAY, TWINS, diced_crafts, diced_webs
from tests.plain import Payer, Story, powers

COPIED = ((0, ()), (1, (0,)), (2, (1,)), (3, (2,)), (3, (2,)))
PUTS = ((0, ()), (1, (0,)), (1, (1,)), (2, (2,)), (2, (1,)))


class Anew(unittest.TestCase):

    def test_the_empty_web(self):
        for craft in CRAFTS:
            self.assertEqual((paid_anew(craft, (), new_slots(craft)), cost_anew(craft, (), ())), ((), 0))

    def test_two_wants_that_hold_one_wait(self):
        # Behind the two elders' looks: (2, 0) wants (0, 0) by two slots.
        self.assertEqual(paid_anew(COPIES, COPIED, ()), (1, 0, 2, 11, 3))
        self.assertEqual(paid_anew(COPIES, COPIED, ((0, 0),)), (1, 0, 2, 3 + 7 + 14 + 1, 3 + 7))
        self.assertEqual(paid_anew(COPIES, COPIED, ((2, 0),)), (1, 0, 2, 3 + 7 + 1, 3 + 1))
        self.assertEqual(paid_anew(COPIES, COPIED, ((0, 0), (2, 0))), (1, 0, 2, 25, 25))
        self.assertEqual(paid_anew(COPIES, COPIED, ((0, 1),)), (1, 0, 2, 11, 3))
        self.assertEqual(cost_anew(COPIES, COPIED, ((0, 0), (2, 0))), 53)

    def test_a_look_at_what_was_forced_before(self):
        self.assertEqual(paid_anew(CHAIN, PUTS, ((1, 0),)), (0, 0, 0, 2, 1))
        self.assertEqual(paid_anew(CHAIN, (*PUTS, (2, (2,))), ((1, 0),)), (0, 0, 0, 2, 1, 2))
        self.assertEqual(paid_anew(CHAIN, (*PUTS, (2, (2,))), ()), (0, 0, 0, 2, 0, 0))

    def test_anew_ones_go_on_to_what_is_shared(self):
        # (2, 0) is anew, what it wants is not: done by the first look, free for the second.
        craft = ((1, 1), (((), (), 0, 0, (("new", 5, ()),)), ((0,), (), 0, 1, (("new", 3, ((0, 0),)),)),
                          ((1,), ((0, 0),), 1, 1, (("none",),))))
        web = ((0, ()), (1, (0,)), (2, (1,)), (2, (1,)), (1, (0,)), (2, (4,)))
        self.assertEqual(paid_anew(craft, web, ((1, 0),)), (0, 0, 9, 4, 0, 4))
        self.assertEqual(paid_anew(craft, web, ((0, 0),)), (0, 0, 9, 1, 0, 9))
        self.assertEqual(paid_anew(craft, web, ((0, 0), (1, 0))), (0, 0, 9, 9, 0, 9))
        self.assertEqual(paid_anew(craft, web, ()), (0, 0, 9, 1, 0, 4))

    def test_both_looks_at_one_wait(self):
        self.assertEqual(paid_anew(MELDS, ((0, ()), (1, (0, 0)), (0, ()), (1, (2, 0))), ((0, 0),)), (0, 8, 0, 8))

    def test_twice_as_much_with_each_version(self):
        web = ((0, ()), *[(1, (at,)) for at in range(58)], (2, (58,)), (2, (58,)))
        self.assertEqual(paid_anew(DOUBLE, web, new_slots(DOUBLE))[57:], (0, 0, 2 ** 58, 2 ** 58))
        self.assertEqual(cost_anew(DOUBLE, web, ((0, 0), (0, 1))), 4)
        self.assertEqual(again(DOUBLE, web, new_slots(DOUBLE), 58, 1), 2 ** 58)

    def test_as_plainly_told(self):
        for craft in (*CRAFTS, *diced_crafts(40)):
            for web in diced_webs(craft, 3, 7):
                for some in powers(new_slots(craft))[:40]:
                    payer = Payer(craft, web, some)
                    self.assertEqual(paid_anew(craft, web, some), tuple(payer.paid))
                    self.assertEqual(cost_anew(craft, web, some), sum(payer.paid))
                    for version, made in enumerate(payer.story.versions):
                        for slot, wait in enumerate(made):
                            self.assertEqual(again(craft, web, some, version, slot), payer.again(wait))


class AtOnce(unittest.TestCase):

    def test_each_maker_pays(self):
        self.assertEqual(paid_at_once(CHAIN, PUTS), (0, 1, 1, 0, 0))
        self.assertEqual(paid_at_once(COPIES, COPIED), (17, 0, 3, 3, 3))
        self.assertEqual((paid_at_once(TWINS, ((0, ()),)), paid_at_once(STRAY, ((0, ()),))), ((6,), (5,)))
        self.assertEqual((paid_at_once(KEPT, ()), cost_at_once(KEPT, ())), ((), 0))
        self.assertEqual(cost_at_once(COPIES, COPIED), 26)

    def test_as_if_each_deed_looked_at_what_it_makes(self):
        for craft in (*CRAFTS, *diced_crafts(30)):
            for web in diced_webs(craft, 2, 8):
                story = Story(craft, ())
                told = []
                for row, elders in web:
                    story.make(row, elders)
                    log = []
                    for slot, own in enumerate(craft[1][row][4]):
                        if own[0] == "new":
                            story.versions[-1][slot].force(len(told), "at once", log)
                    told.append(story.paid[-1] + sum(wait.cost for wait in log))
                self.assertEqual(paid_at_once(craft, web), tuple(told))
                self.assertEqual(cost_at_once(craft, web), sum(told))


class Again(unittest.TestCase):

    def test_nothing_and_shared(self):
        web = ((0, ()), (1, (0,)), (2, (1,)))
        self.assertEqual([again(KEPT, web, ((1, 0),), version, slot) for version in range(3) for slot in range(2)],
                         [0, 0, 0, 0, 0, 0])
        self.assertEqual([again(KEPT, web, ((0, 1), (1, 0)), version, slot) for version in range(3) for slot in range(2)],
                         [0, 1, 1, 1, 0, 1])

    def test_each_slot_that_holds_it(self):
        self.assertEqual([again(COPIES, COPIED, ((0, 0), (2, 0)), 2, slot) for slot in (0, 1)], [15, 7])
        self.assertEqual([again(COPIES, COPIED, ((2, 0),), 2, slot) for slot in (0, 1)], [1, 0])

    def test_what_was_not_forced_all_the_same(self):
        self.assertEqual(again(CHAIN, PUTS[:3], ((1, 0),), 2, 0), 2)
        self.assertEqual(again(CHAIN, PUTS[:3], (), 2, 0), 0)

    def test_wrong_inputs(self):
        for version, slot, kind, kept in ((5, 9, NoVersion, {"number": 5}), (-1, 0, NoVersion, {"number": -1}),
                                          (0, 1, NoSlot, {"slot": 1}), (4, -1, NoSlot, {"slot": -1})):
            with self.assertRaises(kind) as caught:
                again(CHAIN, PUTS, ((1, 0),), version, slot)
            self.assertEqual(vars(caught.exception), kept)
        with self.assertRaises(NoVersion):
            again(CHAIN, (), (), 0, 0)
        with self.assertRaises(NoSlot):
            again(STRAY, ((0, ()),), (), 0, 0)


class Wrong(unittest.TestCase):

    def test_unfit_ahead_of_all_else(self):
        for call in (lambda craft, web: paid_anew(craft, web, ()), lambda craft, web: cost_anew(craft, web, ()),
                     paid_at_once, cost_at_once, lambda craft, web: again(craft, web, (), 99, 99)):
            for craft in JUNK:
                self.assertRaises(Unfit, call, craft, ())
            for web in (PUTS[1:], (*PUTS, (3, ())), ((0, (0,)),), 5, None, "ab", ((True, ()),)):
                self.assertRaises(Unfit, call, CHAIN, web)


class Guarantees(unittest.TestCase):

    def test_if_more_is_shared_it_costs_at_most_as_much(self):
        for craft in (*CRAFTS, *diced_crafts(25)):
            for web in diced_webs(craft, 3, 6):
                slots = new_slots(craft)
                self.assertEqual(paid_anew(craft, web, ()), paid(craft, web))
                self.assertLessEqual(cost_anew(craft, web, ()), cost_at_once(craft, web))
                for some in powers(slots)[:30]:
                    for more in slots:
                        if more not in some:
                            longer = tuple(sorted((*some, more)))
                            self.assertLessEqual(cost_anew(craft, web, some), cost_anew(craft, web, longer))

    def test_a_look_at_what_was_forced_pays_what_again_tells(self):
        web = ((0, ()), (1, (0,)), (2, (0, 1)), (3, (2, 0)), (1, (3,)), (2, (3, 4)))
        for some in powers(new_slots(PAIRS)):
            pays = paid_anew(PAIRS, (*web, (2, (3, 4))), some)
            told = again(PAIRS, web, some, 4, 0) + again(PAIRS, web, some, 3, 0)
            self.assertEqual(pays[-1], 1 + told)


if __name__ == "__main__":
    unittest.main()
