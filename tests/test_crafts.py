"""[3], [4]: CRAFTS, their ROWS, and which of them come."""

import unittest

from paidbyheirs.crafts import cut_craft, idle_rows, is_craft, is_row, joined_craft, new_slots, renamed, rows_done
from paidbyheirs.crafts import shapes_made, with_cost
from paidbyheirs.errors import CanNot, NoRow, NoSlot, Unfit
from tests.known import CHAIN, COPIES, CRAFTS, DOUBLE, JUNK, KEPT, LATE, LONE, MELDS, NEVER, PAIRS, STAIRS, TWINS
from tests.known import as_lists, as_mixed, deep, diced_crafts, variants
from tests.plain import plain_is_craft, plain_is_row

OTHERS = (True, False, None, -1, 0, 1, 2, 99, "kept", "new", "", (), [], ("none",), ("kept", 0, 0), ("new", 1, ()),
          (0, 0), (0, True), (False, 0), [0, 0], ((0, 0),), ((0, 0), (0, 0)), ("none", 0), ("new", 1), ("kept", 0))
FAULTY_CRAFTS = (
    ((), ()), ((1,), ()), ((), CHAIN[1]), (CHAIN[0], CHAIN[1], ()), CHAIN[:1], (CHAIN[1], CHAIN[0]),
    ((1, -1), CHAIN[1]), ((True,), CHAIN[1]), ("1", CHAIN[1]), ((2,), CHAIN[1]),
)


class IsCraft(unittest.TestCase):

    def test_ordinary_ones(self):
        for craft in (*CRAFTS, *diced_crafts(60)):
            self.assertIs(is_craft(craft), True)
            for row in craft[1]:
                self.assertIs(is_row(craft[0], row), True)
                self.assertIs(is_row(list(craft[0]), row), True)

    def test_junk(self):
        for thing in (*JUNK, *FAULTY_CRAFTS):
            self.assertIs(is_craft(thing), False, thing)
            self.assertIs(is_row((1, 2), thing), False, thing)

    def test_lists_are_no_tuples_there(self):
        for craft in CRAFTS:
            self.assertIs(is_craft(as_lists(craft)), False)
            self.assertIs(is_craft(as_mixed(craft)), False)
            self.assertIs(is_craft((list(craft[0]), craft[1])), False)
            self.assertIs(is_craft((craft[0], list(craft[1]))), False)
            self.assertIs(is_row(craft[0], list(craft[1][0])), False)

    def test_whatever_the_bounds(self):
        wide = (10 ** 9, 5, 0, 0, 0)
        self.assertTrue(is_craft((wide, (((), (), 10 ** 40, 1, (("none",),) * 5),) * 50)))
        self.assertTrue(is_row(wide, ((0, 1), ((1, 4), (0, 10 ** 9 - 1)), 0, 2, ())))
        self.assertFalse(is_row(wide, ((0, 1), ((1, 5),), 0, 2, ())))
        self.assertFalse(is_row(wide, ((), (), 0, 0, ())))

    def test_each_part_exchanged(self):
        for craft in (CHAIN, COPIES, PAIRS):
            told = [is_craft(thing) for thing in variants(craft, OTHERS)]
            self.assertEqual(told, [plain_is_craft(thing) for thing in variants(craft, OTHERS)])
            self.assertIn(True, told)
            self.assertIn(False, told)

    def test_each_part_of_rows_exchanged(self):
        sizes = (2, 0, 1)
        for row in (((0, 2), ((1, 0), (0, 1)), 3, 0, (("kept", 0, 1), ("new", 2, ((0, 0), (0, 1), (1, 0))))),
                    ((2,), (), 0, 2, (("none",),)), ((), (), 0, 1, ())):
            for thing in variants(row, OTHERS):
                self.assertIs(is_row(sizes, thing), plain_is_row(sizes, thing), thing)

    def test_looks_unlike_in_any_order_wants_a_set(self):
        self.assertTrue(is_row((2,), ((0,), ((0, 1), (0, 0)), 0, 0, (("none",), ("none",)))))
        self.assertFalse(is_row((2,), ((0,), ((0, 1), (0, 1)), 0, 0, (("none",), ("none",)))))
        for wants, fit in ((((0, 0), (0, 1)), True), (((0, 1), (0, 0)), False), (((0, 0), (0, 0)), False),
                           (((0, 0), (0, 2)), False), (((0, -1), (0, 1)), False), (((1, 0),), False)):
            self.assertIs(is_row((2,), ((0,), (), 0, 0, (("none",), ("new", 0, wants)))), fit)

    def test_no_more_than_two_elders(self):
        for elders, fit in (((), True), ((0,), True), ((0, 0), True), ((0, 0, 0), False), ((1,), False)):
            self.assertIs(is_row((0,), (elders, (), 0, 0, ())), fit)

    def test_nested_deep(self):
        for levels in range(1, 13):
            for thing in (deep(levels), (deep(levels), CHAIN[1]), (CHAIN[0], deep(levels)),
                          (CHAIN[0], (*CHAIN[1], deep(levels))), ((2,), (((), (), 0, 0, (deep(levels), ("none",))),))):
                self.assertIs(is_craft(thing), False)


class Coming(unittest.TestCase):

    def test_rows_and_shapes(self):
        for craft, shapes, rows, idle in (
                (CHAIN, (0,), (0, 1, 2), ()), (TWINS, (0, 1), (0, 1, 2), ()), (LATE, (0,), (0, 1, 2), (3,)),
                (NEVER, (), (), (0,)), (STAIRS, (0, 1, 2), (1, 2, 3, 5), (0, 4))):
            self.assertEqual((shapes_made(craft), rows_done(craft), idle_rows(craft)), (shapes, rows, idle))

    def test_both_elders_have_to_come(self):
        craft = ((0, 0, 0), (((), (), 0, 0, ()), ((0, 1), (), 0, 2, ()), ((1, 0), (), 0, 2, ())))
        self.assertEqual((shapes_made(craft), rows_done(craft), idle_rows(craft)), ((0,), (0,), (1, 2)))

    def test_a_look_at_nothing_hinders_nothing(self):
        craft = ((1, 0), (((), (), 0, 0, (("none",),)), ((0,), ((0, 0),), 0, 1, ())))
        self.assertEqual(rows_done(craft), (0, 1))

    def test_cut_craft(self):
        self.assertEqual(cut_craft(STAIRS), (STAIRS[0], tuple([STAIRS[1][row] for row in (1, 2, 3, 5)])))
        self.assertEqual(cut_craft(CHAIN), CHAIN)
        self.assertEqual(idle_rows(cut_craft(STAIRS)), ())

    def test_cut_craft_of_none_that_comes(self):
        with self.assertRaises(CanNot) as caught:
            cut_craft(NEVER)
        self.assertEqual(vars(caught.exception), {})


class Renamed(unittest.TestCase):

    def test_shapes_and_rows_go_to_their_places(self):
        told = renamed(PAIRS, (1, 0), (1, 2, 3, 0))
        self.assertEqual(told, ((1, 2), (
            ((1, 1), (), 5, 1, PAIRS[1][3][4]), ((), (), 2, 1, PAIRS[1][0][4]), ((1,), (), 0, 0, PAIRS[1][1][4]),
            ((1, 0), ((1, 0), (0, 0)), 1, 1, PAIRS[1][2][4]))))

    def test_a_ring_of_three_is_not_turned_the_wrong_way(self):
        craft = ((0, 1, 2), (((), (), 1, 0, ()), ((), (), 2, 1, (("none",),)), ((), (), 3, 2, (("none",),) * 2)))
        self.assertEqual(renamed(craft, (1, 2, 0), (0, 1, 2)), ((2, 0, 1), (
            ((), (), 1, 1, ()), ((), (), 2, 2, (("none",),)), ((), (), 3, 0, (("none",),) * 2))))
        self.assertEqual([row[2] for row in renamed(craft, (0, 1, 2), (1, 2, 0))[1]], [3, 1, 2])

    def test_as_it_was(self):
        for craft in CRAFTS:
            same = renamed(craft, tuple(range(len(craft[0]))), tuple(range(len(craft[1]))))
            self.assertEqual(same, craft)

    def test_unfit_orders(self):
        for shapes in ((), (0,), (0, 0), (0, 1, 2), (1, 2), (-1, 0), (False, True), (0, None), None, 5, "01", (0, (1,)),
                       {0: 1, 1: 0}):
            with self.assertRaises(Unfit):
                renamed(TWINS, shapes, (0, 1, 2))
        for rows in ((), (0, 1), (0, 1, 1), (0, 1, 2, 3), (1, 2, 3), (-1, 0, 1), (False, True, 2), None, "012"):
            with self.assertRaises(Unfit):
                renamed(TWINS, (0, 1), rows)


class Joined(unittest.TestCase):

    def test_numbers_go_on(self):
        self.assertEqual(joined_craft(MELDS, PAIRS), ((1, 2, 1), (*MELDS[1], (
            (), (), 2, 1, PAIRS[1][0][4]), ((1,), (), 0, 2, PAIRS[1][1][4]), (
            (1, 2), ((1, 0), (0, 0)), 1, 1, PAIRS[1][2][4]), ((1, 1), (), 5, 1, PAIRS[1][3][4]))))

    def test_with_itself(self):
        self.assertEqual(joined_craft(LONE, LONE), ((1, 1), (*LONE[1], ((), (), 0, 1, (("none",),)), (
            (1,), (), 0, 1, (("new", 1, ((0, 0),)),)))))

    def test_neither_is_hindered(self):
        for craft in CRAFTS:
            for other in CRAFTS:
                told = joined_craft(craft, other)
                self.assertTrue(is_craft(told))
                on = [len(craft[1]) + row for row in rows_done(other)]
                self.assertEqual(rows_done(told), (*rows_done(craft), *on))


class NewSlots(unittest.TestCase):

    def test_whether_the_row_comes_or_not(self):
        self.assertEqual(new_slots(DOUBLE), ((0, 0), (0, 1), (1, 0), (1, 1)))
        self.assertEqual(new_slots(KEPT), ((0, 1), (1, 0)))
        self.assertEqual(new_slots(NEVER), ())
        idle = ((1,), (((0,), (), 0, 0, (("new", 1, ()),)),))
        self.assertEqual(new_slots(idle), ((0, 0),))

    def test_with_cost(self):
        self.assertEqual(with_cost(DOUBLE, 1, 1, 9)[1][1][4], (DOUBLE[1][1][4][0], ("new", 9, ((0, 0), (0, 1)))))
        self.assertEqual(with_cost(DOUBLE, 1, 1, 0), DOUBLE)
        told = with_cost(DOUBLE, 1, 1, 9)
        self.assertEqual((told[0], told[1][0], told[1][2], told[1][1][:4]),
                         (DOUBLE[0], DOUBLE[1][0], DOUBLE[1][2], DOUBLE[1][1][:4]))
        for craft in CRAFTS:
            for row, slot in new_slots(craft):
                told = with_cost(craft, row, slot, 10 ** 6)
                self.assertTrue(is_craft(told))
                self.assertEqual(told[1][row][4][slot][1], 10 ** 6)
                self.assertEqual(with_cost(told, row, slot, craft[1][row][4][slot][1]), craft)

    def test_with_cost_where_there_is_none(self):
        for row in (-1, 3, 10 ** 9):
            with self.assertRaises(NoRow) as caught:
                with_cost(TWINS, row, 7, 0)
            self.assertEqual(vars(caught.exception), {"number": row})
        for row, slot in ((0, -1), (0, 2), (1, 0)):
            with self.assertRaises(NoSlot) as caught:
                with_cost(TWINS, row, slot, 0)
            self.assertEqual(vars(caught.exception), {"slot": slot})
        for row, slot in ((0, 0), (1, 1), (2, 0), (2, 1)):
            with self.assertRaises(Unfit):
                with_cost(KEPT, row, slot, 0)


class NoCraft(unittest.TestCase):

    def test_unfit_ahead_of_all_else(self):
        faulty = (*JUNK, *FAULTY_CRAFTS, {}, {"sizes": 1}, 1.5, b"ab", object(), as_lists(FAULTY_CRAFTS))
        for craft in faulty:
            for call in (lambda: shapes_made(craft), lambda: rows_done(craft), lambda: idle_rows(craft),
                         lambda: cut_craft(craft), lambda: renamed(craft, (), ()), lambda: joined_craft(craft, CHAIN),
                         lambda: joined_craft(CHAIN, craft), lambda: new_slots(craft),
                         lambda: with_cost(craft, 99, 99, 0)):
                with self.assertRaises(Unfit) as caught:
                    call()
                self.assertEqual(vars(caught.exception), {})

    def test_unfit_for_what_is_nested_without_end(self):
        endless = []
        endless.append(endless)
        for craft in (endless, [[1], endless], [[1], [[[], [], 0, 0, endless]]]):
            with self.assertRaises(Unfit):
                new_slots(craft)


if __name__ == "__main__":
    unittest.main()
