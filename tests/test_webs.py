"""[3], [5]: WEBS, heirs, and what slots hold."""

import unittest

from paidbyheirs.errors import NoSlot, NoVersion, TooMany, Unfit
from paidbyheirs.webs import all_webs, beside, comes_from, cut_web, heirs, held, holders, is_line, is_web, next_deeds
from paidbyheirs.webs import shapes_of, wanted
from tests.known import CHAIN, COPIES, CRAFTS, DOUBLE, JUNK, KEPT, LATE, MELDS, NEVER, PAIRS, STAIRS, STRAY, TWINS
from tests.known import as_lists, as_mixed, deep, diced_crafts, diced_webs, variants
from tests.plain import Story, plain_is_web, plain_next, plain_webs

OTHERS = (True, False, None, -1, 0, 1, 2, 3, 99, "", (), [], (0,), (1,), (True,), (0, 0), (0, ()), (1, (0,)), [0, []])
FAN = ((0, ()), (1, (0,)), (1, (1,)), (2, (2,)), (2, (1,)))
# ROWS of COPIES: 0 begins, 1 keeps one WAIT twice, 2 wants both slots, 3 looks at both.
COPIED = ((0, ()), (1, (0,)), (2, (1,)), (3, (1,)))
FAULTY_WEBS = (
    [], ((0, ()), (1, (1,))), ((0, ()), (1, (2,))), ((0, ()), (1, (-1,))), ((0, ()), (3, (0,))), ((-1, ()),),
    ((0, ()), (1, ())), ((0, ()), (1, (0, 0))), ((1, (0,)), (0, ())), ((0, (0,)),), ((0, ()), (True, (0,))),
    ((0, ()), (1, (False,))), ((0, ()), (1, [0])), ((0, ()), [1, (0,)]), [(0, ()), (1, (0,))], ((0,),), ((0, (), ()),),
    (0, ()), ((0, ()), 5), ((0, ()), None), ((0, ()), (1, 0)), ((0, None),), (("0", ()),), ((0, ""),), ((None, ()),),
)


class IsWeb(unittest.TestCase):

    def test_ordinary_ones(self):
        for craft in CRAFTS:
            self.assertIs(is_web(craft, ()), True)
            for web in diced_webs(craft, 5, 9):
                self.assertIs(is_web(craft, web), True)

    def test_both_elders_may_be_one(self):
        self.assertTrue(is_web(MELDS, ((0, ()), (1, (0, 0)), (1, (1, 0)))))

    def test_shapes_place_by_place(self):
        begun = ((0, ()), (1, (0,)))
        self.assertTrue(is_web(PAIRS, (*begun, (2, (0, 1)))))
        self.assertFalse(is_web(PAIRS, (*begun, (2, (1, 0)))))
        self.assertFalse(is_web(PAIRS, (*begun, (2, (0, 0)))))
        self.assertFalse(is_web(PAIRS, (*begun, (1, (1,)))))

    def test_none(self):
        for thing in FAULTY_WEBS:
            self.assertIs(is_web(CHAIN, thing), False, thing)
        for thing in JUNK:
            self.assertIs(is_web(CHAIN, thing), False, thing)
        for levels in range(2, 13):
            self.assertIs(is_web(CHAIN, deep(levels)), False)
            self.assertIs(is_web(CHAIN, ((0, ()), (1, deep(levels)))), False)

    def test_lists_are_no_tuples_there(self):
        self.assertFalse(is_web(CHAIN, as_lists(FAN)))
        self.assertFalse(is_web(CHAIN, as_mixed(FAN)))
        self.assertFalse(is_web(CHAIN, []))

    def test_each_part_exchanged(self):
        for craft, web in ((CHAIN, FAN), (PAIRS, ((0, ()), (1, (0,)), (2, (0, 1)), (3, (2, 0)), (1, (3,))))):
            for thing in variants(web, OTHERS):
                self.assertIs(is_web(craft, thing), plain_is_web(craft, thing), thing)

    def test_however_long(self):
        long = ((0, ()), *[(1, (at,)) for at in range(20000)])
        self.assertTrue(is_web(CHAIN, long))
        self.assertFalse(is_web(CHAIN, (*long, (1, (20001,)))))

    def test_of_another_craft_it_is_none(self):
        self.assertFalse(is_web(TWINS, FAN))
        self.assertTrue(is_web(CHAIN, FAN))


class Deeds(unittest.TestCase):

    def test_next_deeds(self):
        self.assertEqual(next_deeds(MELDS, ()), [(0, ())])
        self.assertEqual(next_deeds(MELDS, ((0, ()), (0, ()))),
                         [(0, ()), (1, (0, 0)), (1, (0, 1)), (1, (1, 0)), (1, (1, 1))])
        self.assertEqual(next_deeds(NEVER, ()), [])
        for craft in (*CRAFTS, *diced_crafts(20)):
            for web in diced_webs(craft, 3, 5):
                self.assertEqual(next_deeds(craft, web), plain_next(craft, web))

    def test_next_deeds_ascend(self):
        for craft in CRAFTS:
            for web in diced_webs(craft, 3, 12):
                deeds = next_deeds(craft, web)
                self.assertEqual(deeds, sorted(set(deeds)))

    def test_all_webs(self):
        for craft in (*CRAFTS, *diced_crafts(20)):
            for many in range(4):
                webs = plain_webs(craft, many)
                if len(webs) <= 2000:
                    self.assertEqual(all_webs(craft, many), sorted(webs))

    def test_all_webs_of_none_that_comes(self):
        self.assertEqual([all_webs(NEVER, many) for many in range(6)], [[()], [], [], [], [], []])
        self.assertEqual(all_webs(STRAY, 5), [((0, ()),) * 5])

    def test_all_webs_at_the_border(self):
        begins = (((), (), 0, 0, ()),)
        self.assertEqual(len(all_webs(((0,), begins * 2000), 1)), 2000)
        with self.assertRaises(TooMany) as caught:
            all_webs(((0,), begins * 2001), 1)
        self.assertEqual(vars(caught.exception), {})

    def test_all_webs_at_the_border_within_the_bounds(self):
        for deeds, many, fit in BORDERS:
            craft = ((0, 0), tuple([(elders, (), 0, shape, ()) for elders, shape in deeds]))
            if fit > 2000:
                with self.assertRaises(TooMany):
                    all_webs(craft, many)
            else:
                webs = all_webs(craft, many)
                self.assertEqual(len(webs), fit)
                self.assertEqual(webs, sorted(set(webs)))

    def test_all_webs_too_many(self):
        for many, fit in ((3, 15), (4, 105), (5, 945)):
            self.assertEqual(len(all_webs(CHAIN, many)), fit)
        self.assertEqual(len(all_webs(MELDS, 5)), 1700)
        for craft in (PAIRS, COPIES):
            with self.assertRaises(TooMany):
                all_webs(craft, 5)


# The elders and the SHAPE of each ROW; so many VERSIONS; how many WEBS there are.
BORDERS = (
    ((((), 0), ((1,), 1), ((1,), 1), ((0, 0), 1), ((1, 1), 0), ((1, 1), 0)), 5, 2000),
    ((((), 0), ((0,), 1), ((0,), 1), ((1,), 0), ((1,), 1), ((1, 1), 0)), 5, 1997),
    ((((), 0), ((1,), 0), ((1,), 0), ((0, 0), 1), ((0, 1), 1), ((1, 1), 1)), 5, 2005),
    ((((), 0), ((), 0), ((), 0), ((0,), 0), ((0, 0), 0)), 4, 2025),
    ((((), 0),) * 4 + (((0,), 0),), 4, 840), ((((), 0),) * 4 + (((0,), 0),), 5, 6720),
    ((((), 0),) * 6, 4, 1296), ((((), 0),) * 5, 5, 3125),
)


class Heirs(unittest.TestCase):

    def test_heirs(self):
        self.assertEqual([heirs(FAN, version) for version in range(5)], [[(1, 0)], [(2, 0), (4, 0)], [(3, 0)], [], []])
        web = ((0, ()), (0, ()), (1, (1, 0)), (1, (0, 0)), (1, (0, 3)))
        self.assertEqual(heirs(web, 0), [(2, 1), (3, 0), (3, 1), (4, 0)])
        self.assertEqual([heirs(web, version) for version in (1, 2, 3, 4)], [[(2, 0)], [], [(4, 1)], []])

    def test_lines(self):
        for web, line in (((), True), (((0, ()),), True), (((0, ()), (0, ())), True), (((0, ()), (1, (0, 0))), False),
                          (((0, ()), (0, ()), (1, (0, 1)), (1, (2, 2))), False), (FAN, False), (FAN[:4], True),
                          (((0, ()), (0, ()), (1, (0, 1)), (0, ()), (1, (3, 2))), True),
                          (((0, ()), (0, ()), (1, (0, 1)), (1, (0, 2))), False)):
            self.assertIs(is_line(web), line)

    def test_a_line_has_one_heir_at_most(self):
        for craft in CRAFTS:
            for web in diced_webs(craft, 6, 4):
                pairs = [heirs(web, version) for version in range(len(web))]
                self.assertIs(is_line(web), all(len(own) <= 1 for own in pairs))

    def test_comes_from(self):
        web = ((0, ()), (0, ()), (1, (0, 0)), (1, (2, 0)), (1, (1, 2)), (0, ()))
        self.assertEqual([comes_from(web, version) for version in range(6)],
                         [(0,), (1,), (0, 2), (0, 2, 3), (0, 1, 2, 4), (5,)])

    def test_no_version(self):
        for version in (-1, 5, 10 ** 20):
            for call in (heirs, comes_from):
                with self.assertRaises(NoVersion) as caught:
                    call(FAN, version)
                self.assertEqual(vars(caught.exception), {"number": version})
        with self.assertRaises(NoVersion):
            heirs((), 0)

    def test_shapes_of(self):
        self.assertEqual(shapes_of(TWINS, ()), ())
        self.assertEqual(shapes_of(TWINS, ((0, ()), (1, (0,)), (0, ()), (2, (2,)))), (0, 1, 0, 1))
        self.assertEqual(shapes_of(STAIRS, ((3, ()), (2, (0,)), (1, (1,)))), (0, 1, 2))

    def test_cut_web(self):
        self.assertEqual(cut_web(FAN, ()), ())
        self.assertEqual(cut_web((), ()), ())
        self.assertEqual(cut_web(FAN, (0, 1, 2, 3, 4)), FAN)
        self.assertEqual(cut_web(FAN, (3, 4)), FAN)
        web = ((0, ()), (0, ()), (1, (1, 1)), (0, ()), (1, (3, 2)), (1, (4, 1)))
        self.assertEqual(cut_web(web, (4,)), ((0, ()), (1, (0, 0)), (0, ()), (1, (2, 1))))
        self.assertEqual(cut_web(web, (0, 3)), ((0, ()), (0, ())))

    def test_cut_web_of_no_version(self):
        for versions, number in (((5,), 5), ((-1,), -1), ((-2, -1), -2), ((0, 5, 6), 5), ((4, 7), 7)):
            with self.assertRaises(NoVersion) as caught:
                cut_web(FAN, versions)
            self.assertEqual(vars(caught.exception), {"number": number})
        with self.assertRaises(NoVersion):
            cut_web((), (0,))

    def test_beside(self):
        self.assertEqual(beside(()), ())
        self.assertEqual(beside(((), (), ())), ())
        self.assertEqual(beside((FAN,)), FAN)
        pair = ((0, ()), (1, (0, 0)))
        self.assertEqual(beside((pair, (), ((0, ()),), pair)),
                         ((0, ()), (1, (0, 0)), (0, ()), (0, ()), (1, (3, 3))))


class Held(unittest.TestCase):

    def test_the_empty_web(self):
        self.assertEqual((held(CHAIN, ()), shapes_of(CHAIN, ())), ((), ()))

    def test_no_slots(self):
        self.assertEqual(held(STRAY, ((0, ()), (0, ()))), ((), ()))

    def test_kept_in_several_slots(self):
        self.assertEqual(held(COPIES, COPIED), (((0, 0), (0, 1)), ((0, 0), (0, 0)), ((2, 0), (0, 0)), ((0, 0), None)))
        self.assertEqual(holders(COPIES, COPIED, (0, 0)), ((0, 0), (1, 0), (1, 1), (2, 1), (3, 0)))
        self.assertEqual(holders(COPIES, COPIED, (0, 1)), ((0, 1),))
        self.assertEqual(holders(COPIES, COPIED, (2, 0)), ((2, 0),))

    def test_wanted_by_two_wants(self):
        self.assertEqual(wanted(COPIES, COPIED, (2, 0)), ((0, 0), (0, 0)))
        self.assertEqual(wanted(COPIES, COPIED, (0, 1)), ())

    def test_kept_nothing(self):
        web = ((0, ()), (1, (0,)), (2, (0, 1)), (3, (2, 0)), (1, (2,)))
        self.assertEqual(held(PAIRS, web), (((0, 0), None), ((1, 0),), ((1, 0), None), ((3, 0), (3, 1)), ((4, 0),)))
        self.assertEqual(wanted(PAIRS, web, (1, 0)), ((0, 0),))
        self.assertEqual(wanted(PAIRS, web, (3, 0)), ((1, 0), (0, 0)))
        self.assertEqual(wanted(PAIRS, web, (3, 1)), ())
        self.assertEqual(wanted(PAIRS, web, (4, 0)), ((1, 0),))

    def test_both_elders_one(self):
        web = ((0, ()), (3, (0, 0)))
        self.assertEqual(wanted(PAIRS, web, (1, 0)), ((0, 0), (0, 0)))
        self.assertEqual(wanted(DOUBLE, ((0, ()), (1, (0,))), (1, 1)), ((0, 0), (0, 1)))

    def test_as_plainly_told(self):
        for craft in (*CRAFTS, *diced_crafts(30)):
            for web in diced_webs(craft, 3, 8):
                story = Story(craft, web)
                self.assertEqual(held(craft, web), story.held())
                for wait, told in story.waits.items():
                    self.assertEqual(wanted(craft, web, wait), tuple(other.name for other in told.wants))
                    keep = [(version, slot) for version, row in enumerate(story.held())
                            for slot, own in enumerate(row) if own == wait]
                    self.assertEqual(holders(craft, web, wait), tuple(keep))

    def test_no_wait(self):
        for call in (wanted, holders):
            for wait, kind, kept in (((5, 0), NoVersion, {"number": 5}), ((-1, 9), NoVersion, {"number": -1}),
                                     ((0, 1), NoSlot, {"slot": 1}), ((0, -1), NoSlot, {"slot": -1}),
                                     ((0, 0), Unfit, {}), ((3, 0), Unfit, {})):
                with self.assertRaises(kind) as caught:
                    call(CHAIN, FAN, wait)
                self.assertEqual(vars(caught.exception), kept)
            with self.assertRaises(Unfit):
                call(KEPT, ((0, ()), (1, (0,))), (1, 1))
            with self.assertRaises(NoSlot):
                call(TWINS, ((0, ()), (1, (0,))), (1, 0))


class NoWeb(unittest.TestCase):

    def test_unfit_ahead_of_all_else(self):
        for web in (*[web for web in FAULTY_WEBS + JUNK if as_lists(web) != []], {}, 1.5, b"", object()):
            if plain_is_web(CHAIN, as_tuple(web)):
                continue
            for call in (lambda: next_deeds(CHAIN, web), lambda: shapes_of(CHAIN, web), lambda: held(CHAIN, web),
                         lambda: wanted(CHAIN, web, (99, 99)), lambda: holders(CHAIN, web, (99, 99))):
                with self.assertRaises(Unfit, msg=web):
                    call()

    def test_unfit_for_no_craft(self):
        for craft in (*JUNK, LATE[1], {}, object()):
            for call in (lambda: is_web(craft, ()), lambda: is_web(craft, None), lambda: next_deeds(craft, ()),
                         lambda: all_webs(craft, 0), lambda: shapes_of(craft, ()), lambda: held(craft, ()),
                         lambda: wanted(craft, (), (0, 0)), lambda: holders(craft, 5, (0, 0))):
                with self.assertRaises(Unfit, msg=craft):
                    call()


def as_tuple(value):
    """value with tuples in the place of lists, at any depth."""
    if isinstance(value, (list, tuple)):
        return tuple(as_tuple(part) for part in value)
    return value


if __name__ == "__main__":
    unittest.main()
