"""[3], [6]: LEDGERS, what deeds pay, and by what a WAIT is done."""

import unittest

from paidbyheirs.errors import NoSlot, NoVersion, Unfit
from paidbyheirs.ledgers import cost, forced_by, ledger, look_now, paid, unforced
from tests.known import CARRY, CHAIN, COPIES, CRAFTS, DOUBLE, JUNK, KEPT, LATE, MELDS, PAIRS, SPROUT, STRAY, TWINS
from tests.known import diced_crafts, diced_webs
from tests.plain import Story

PUTS = ((0, ()), (1, (0,)), (1, (1,)), (2, (2,)))
COPIED = ((0, ()), (1, (0,)), (2, (1,)), (3, (1,)))


class Ledgers(unittest.TestCase):

    def test_the_empty_web(self):
        for craft in CRAFTS:
            told = (ledger(craft, ()), paid(craft, ()), cost(craft, ()), unforced(craft, ()))
            self.assertEqual(told, ((), (), 0, ()))

    def test_a_row_costs_without_any_wait(self):
        self.assertEqual((paid(STRAY, ((0, ()), (0, ()))), cost(STRAY, ((0, ()), (0, ())))), ((5, 5), 10))

    def test_what_is_wanted_is_done_ahead(self):
        long = ((0, ()), *[(1, (at,)) for at in range(5)], (2, (5,)))
        self.assertEqual(ledger(CHAIN, long)[-1], ((1, 0), (2, 0), (3, 0), (4, 0), (5, 0)))
        self.assertEqual(paid(CHAIN, long), (0, 0, 0, 0, 0, 0, 5))

    def test_done_once_for_all(self):
        web = ((0, ()), (1, (0,)), (1, (1,)), (2, (1,)), (2, (2,)), (2, (2,)), (2, (1,)))
        self.assertEqual(ledger(CHAIN, web), ((), (), (), ((1, 0),), ((2, 0),), (), ()))
        self.assertEqual(paid(CHAIN, web), (0, 0, 0, 1, 1, 0, 0))
        self.assertEqual(cost(CHAIN, web), 2)

    def test_one_wait_held_by_two_looks(self):
        self.assertEqual(ledger(MELDS, ((0, ()), (1, (0, 0)))), ((), ((0, 0),)))
        self.assertEqual(ledger(MELDS, ((0, ()), (0, ()), (1, (1, 0)))), ((), (), ((1, 0), (0, 0))))
        self.assertEqual(forced_by(MELDS, ((0, ()), (1, (0, 0))), (0, 0)), (1, "look", 0, 0))

    def test_looks_in_their_order(self):
        self.assertEqual(forced_by(COPIES, COPIED, (0, 0)), (3, "look", 0, 1))
        self.assertEqual(ledger(COPIES, ((0, ()), (3, (0,)))), ((), ((0, 1), (0, 0))))
        web = ((0, ()), (1, (0,)), (2, (0, 1)))
        self.assertEqual(ledger(PAIRS, web), ((), (), ((0, 0), (1, 0))))
        self.assertEqual(paid(PAIRS, web), (2, 0, 111))
        self.assertEqual(forced_by(PAIRS, web, (1, 0)), (2, "look", 1, 0))
        self.assertEqual(forced_by(PAIRS, web, (0, 0)), (2, "want", (1, 0)))

    def test_wanted_by_two_wants(self):
        web = (*COPIED[:3], (3, (2,)))
        self.assertEqual(ledger(COPIES, web), ((), (), (), ((0, 0), (2, 0))))
        self.assertEqual(paid(COPIES, web), (1, 0, 2, 11))
        self.assertEqual(forced_by(COPIES, web, (0, 0)), (3, "look", 0, 1))
        self.assertEqual(forced_by(COPIES, web, (2, 0)), (3, "look", 0, 0))
        self.assertEqual(unforced(COPIES, web), ((0, 1),))

    def test_the_wait_that_wanted_it_just_then(self):
        # (2, 0) wants (1, 0), then (1, 1), which both want (0, 0) and (0, 1).
        tower = ((0, ()), (1, (0,)), (1, (1,)), (2, (2,)))
        self.assertEqual(ledger(DOUBLE, tower)[3], ((0, 0), (0, 1), (1, 0), (1, 1), (2, 0)))
        self.assertEqual([forced_by(DOUBLE, tower, wait) for wait in ((0, 0), (0, 1), (1, 0), (1, 1), (2, 0), (2, 1))],
                         [(3, "want", (1, 0)), (3, "want", (1, 0)), (3, "want", (2, 0)), (3, "want", (2, 0)),
                          (3, "look", 0, 0), None])
        self.assertEqual(unforced(DOUBLE, tower), ((2, 1),))

    def test_a_want_reached_first_by_another_want(self):
        # (2, 0) wants (1, 0), then (0, 1); (1, 0) wants (0, 1) too, and is forced first.
        craft = ((2,), (((), (), 0, 0, (("none",), ("new", 1, ()))),
                        ((0,), (), 0, 0, (("new", 2, ((0, 1),)), ("kept", 0, 1))),
                        ((0,), (), 0, 0, (("new", 4, ((0, 0), (0, 1))), ("none",))),
                        ((0,), ((0, 0),), 8, 0, (("none",), ("none",)))))
        web = ((0, ()), (1, (0,)), (2, (1,)), (3, (2,)))
        self.assertEqual(ledger(craft, web)[3], ((0, 1), (1, 0), (2, 0)))
        self.assertEqual(forced_by(craft, web, (0, 1)), (3, "want", (1, 0)))
        self.assertEqual(paid(craft, web), (0, 0, 0, 15))

    def test_slots_that_hold_nothing(self):
        self.assertEqual(ledger(CHAIN, ((0, ()), (2, (0,)), (2, (1,)))), ((), (), ()))
        self.assertEqual(look_now(CHAIN, PUTS, 0, 0), 0)
        self.assertEqual(ledger(PAIRS, ((0, ()), (3, (0, 0)))), ((), ()))
        self.assertEqual(look_now(PAIRS, ((0, ()), (3, (0, 0))), 1, 1), 10000)

    def test_kept_by_many(self):
        kept_on = ((0, ()), (1, (0,)), (1, (0,)), (2, (2,)), (2, (1,)))
        self.assertEqual((ledger(CARRY, kept_on), paid(CARRY, kept_on)), (((), (), (), ((0, 0),), ()), (0, 0, 0, 3, 1)))
        self.assertEqual(forced_by(CARRY, kept_on, (0, 0)), (3, "look", 0, 0))

    def test_picked_one_by_one(self):
        web = ((0, ()), (1, (0,)), (1, (0,)), (2, (1,)), (2, (2,)), (1, (3,)))
        self.assertEqual((paid(SPROUT, web), unforced(SPROUT, web)), ((0, 0, 0, 5, 5, 0), ((5, 0),)))

    def test_look_now_changes_nothing(self):
        for _ in range(2):
            self.assertEqual([look_now(KEPT, ((0, ()), (1, (0,))), 1, slot) for slot in (0, 1)], [1, 1])
        self.assertEqual(look_now(CHAIN, PUTS, 2, 0), 0)
        self.assertEqual(look_now(CHAIN, (*PUTS, (1, (2,))), 4, 0), 1)

    def test_deep_webs_need_no_deep_calls(self):
        many = 4000
        long = ((0, ()), *[(1, (at,)) for at in range(many)], (2, (many,)))
        self.assertEqual(cost(CHAIN, long), many)
        self.assertEqual(ledger(CHAIN, long)[-1], tuple([(at, 0) for at in range(1, many + 1)]))
        self.assertEqual(look_now(CHAIN, long[:-1], many, 0), many)
        self.assertEqual(forced_by(CHAIN, long, (1, 0)), (many + 1, "want", (2, 0)))


class AsPlainlyTold(unittest.TestCase):

    def test_on_many_webs(self):
        for craft in (*CRAFTS, *diced_crafts(80)):
            for web in (*diced_webs(craft, 2, 6), *diced_webs(craft, 2, 14, seed=3)):
                with self.subTest(craft=craft, web=web):
                    self.try_one(craft, web)

    def try_one(self, craft, web):
        story = Story(craft, web)
        self.assertEqual(ledger(craft, web), story.ledger())
        self.assertEqual(paid(craft, web), tuple(story.paid))
        self.assertEqual(cost(craft, web), sum(story.paid))
        not_done = sorted(name for name, wait in story.waits.items() if wait.done_by is None)
        self.assertEqual(unforced(craft, web), tuple(not_done))
        for name, wait in story.waits.items():
            self.assertEqual(forced_by(craft, web, name), wait.done_by)
        for version, made in enumerate(story.held()):
            for slot in range(len(made)):
                self.assertEqual(look_now(craft, web, version, slot), Story(craft, web).look(version, slot))


class Errors(unittest.TestCase):

    def test_no_wait(self):
        for wait, kind, kept in (((4, 0), NoVersion, {"number": 4}), ((-1, 9), NoVersion, {"number": -1}),
                                 ((1, 1), NoSlot, {"slot": 1}), ((0, -1), NoSlot, {"slot": -1}),
                                 ((0, 0), Unfit, {}), ((3, 0), Unfit, {})):
            with self.assertRaises(kind) as caught:
                forced_by(CHAIN, PUTS, wait)
            self.assertEqual(vars(caught.exception), kept)
        with self.assertRaises(Unfit):
            forced_by(KEPT, ((0, ()), (1, (0,))), (1, 1))

    def test_no_look(self):
        for version, slot, kind, kept in ((4, 0, NoVersion, {"number": 4}), (-1, -1, NoVersion, {"number": -1}),
                                          (1, 1, NoSlot, {"slot": 1}), (3, -1, NoSlot, {"slot": -1})):
            with self.assertRaises(kind) as caught:
                look_now(CHAIN, PUTS, version, slot)
            self.assertEqual(vars(caught.exception), kept)
        with self.assertRaises(NoSlot):
            look_now(TWINS, ((0, ()), (1, (0,))), 1, 0)
        with self.assertRaises(NoVersion):
            look_now(TWINS, (), 0, 0)

    def test_unfit_ahead_of_all_else(self):
        wrong = [(CHAIN, web) for web in (((0, ()), (1, (1,))), ((3, ()),), None, True, 5, "", {}, ((0,),), (((),),))]
        wrong += [(craft, ()) for craft in (*JUNK, LATE[1], {}, object())]
        for craft, web in wrong:
            for call in (lambda: ledger(craft, web), lambda: paid(craft, web), lambda: cost(craft, web),
                         lambda: forced_by(craft, web, (99, 99)), lambda: unforced(craft, web),
                         lambda: look_now(craft, web, 99, 99)):
                with self.assertRaises(Unfit, msg=(craft, web)) as caught:
                    call()
                self.assertEqual(vars(caught.exception), {})


if __name__ == "__main__":
    unittest.main()
