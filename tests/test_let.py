"""[3], [10]: which KINDS are let, in which laps SORTS come and end, which KINDS are the least of alike ones."""

import unittest

from paidbyheirs.crafts import cut_craft, rows_done
from paidbyheirs.errors import TooMany, Unfit
from paidbyheirs.kinds import all_kinds, made, taken
from paidbyheirs.let import best_kinds, come_lap, end_lap, is_let, let_kinds, let_sorts, let_stands, struck
from tests.known import BEYOND, BORDER, CHAIN, CRAFTS, HALF, JUNK, LATE, LONE, MELDS, NEVER, PASSES, RELAY, SHARES
from tests.known import SPROUT, STAIRS, STRAY, TWINS, diced_crafts
from tests.plain import plain_sorts, plain_struck

ALL = (*CRAFTS, *diced_crafts(80))
MAKE = (0, (), (0, 1), ((0,), (1,)))
# Sorts that need a STAND come late: slot 0 of SHAPE 0 is looked at by a deed that stands on SHAPE 1 as well.
STEPS = ((1, 1), (((), (), 0, 0, (("new", 2, ()),)), ((), (), 0, 1, (("none",),)), ((1,), (), 0, 1, (("new", 3, ()),)),
                  ((0, 1), ((0, 0), (1, 0)), 0, 1, (("none",),)), ((0, 1), ((1, 0),), 0, 0, (("kept", 0, 0),))))
CALLS = (struck, let_kinds, let_sorts, let_stands, best_kinds)


def plain_laps(craft):
    """The laps in which STANDS and SORTS come, and in which SORTS end, from the let KINDS as the document tells them."""
    _, left = plain_struck(craft)
    come, end = {}, {}
    for _ in range(60):
        for kind in left:
            stands, takes, stand, makes = plain_sorts(craft, kind)
            needs = [*stands, *takes]
            if all(own in come for own in needs):
                lap = 1 + max([come[own] for own in needs], default=0)
                for own in (stand, *makes):
                    come[own] = min(come.get(own, lap), lap)
            if all(sort in end for sort in makes):
                lap = 1 + max([end[sort] for sort in makes], default=0)
                for sort in takes:
                    end[sort] = min(end.get(sort, lap), lap)
    return come, end


class Struck(unittest.TestCase):

    def test_none(self):
        for craft in (CHAIN, MELDS, SPROUT):
            self.assertEqual(struck(craft), [])
            self.assertEqual(let_kinds(craft), all_kinds(craft))
        self.assertEqual(struck(STRAY), [[(1, (((), ()),), (), ())]])

    def test_several_rounds(self):
        self.assertEqual([len(lost) for lost in struck(HALF)], [3, 2])
        # Who looks at SHAPE 2 is idle, so who hands on to it is struck a round behind, and so on.
        craft = (RELAY[0], (*RELAY[1][:3], ((2, 2), (), 0, 1, (("kept", 0, 0),))))
        self.assertEqual([len(lost) for lost in struck(craft)], [len(lost) for lost in plain_struck(craft)[0]])

    def test_all_of_a_round_at_once(self):
        _, *more = struck(TWINS)
        self.assertEqual(more, [])
        craft = ((1,), (((), (), 0, 0, (("new", 1, ()),)), ((0,), (), 0, 0, (("kept", 0, 0),))))
        self.assertEqual(struck(craft), [[(0, (), (0,), ((0,),)), (1, (((0,), (0,)),), (0,), ((0,),))],
                                         [(1, (((0,), ()),), (0,), ())]])

    def test_as_plainly_told(self):
        for craft in ALL:
            rounds, left = plain_struck(craft)
            self.assertEqual((struck(craft), let_kinds(craft)), (rounds, left))


class Let(unittest.TestCase):

    def test_no_let_kind(self):
        for craft in (NEVER, PASSES):
            self.assertEqual([call(craft) for call in CALLS[1:]], [[], (), (), []])
            self.assertEqual([is_let(craft, kind) for kind in all_kinds(craft)], [False] * len(all_kinds(craft)))

    def test_kinds_of_idle_rows_are_not_let(self):
        self.assertEqual((len(struck(LATE)[0]), let_kinds(LATE)), (2, let_kinds(CHAIN)))
        self.assertEqual({kind[0] for kind in let_kinds(STAIRS)} - set(rows_done(STAIRS)), set())

    def test_forced_and_never_taken(self):
        # Without looks a WAIT is never forced; the KINDS in which it is are struck.
        self.assertEqual(let_kinds(LONE), [(0, (), (0,), ()), (1, (((), ()),), (), ()), (1, (((0,), ()),), (), ())])
        self.assertEqual((let_sorts(LONE), let_stands(LONE)), ((), ((0, ()), (0, (0,)))))

    def test_sorts_and_stands(self):
        self.assertEqual(let_sorts(TWINS), ((0, (0,), (0,)), (0, (0, 1), (0,)), (0, (0, 1), (1,)), (0, (1,), (1,))))
        self.assertEqual(let_stands(TWINS), ((0, ()), (0, (0,)), (0, (0, 1)), (0, (1,)), (1, ())))
        self.assertIn((1, (0, 1), (0, 1)), let_sorts(SHARES))
        for craft in ALL:
            left = let_kinds(craft)
            sorts = sorted({sort for kind in left for sort in made(craft, kind)})
            self.assertEqual(let_sorts(craft), tuple(sorts))
            self.assertEqual(sorts, sorted({sort for kind in left for sort in taken(craft, kind)}))
            self.assertEqual(let_stands(craft), tuple(sorted({plain_sorts(craft, kind)[2] for kind in left})))

    def test_is_let(self):
        self.assertEqual((is_let(TWINS, MAKE), is_let(TWINS, (0, (), (0, 1), ((0, 1),)))), (True, False))
        for craft in ALL[:30]:
            left = let_kinds(craft)
            self.assertEqual([kind for kind in all_kinds(craft) if is_let(craft, kind)], left)

    def test_no_kind(self):
        for kind in ((0, (), (0, 1), ()), (9, (), (), ()), (), (True, (((0,), ()),), (), ()), (0, (), (0, 1), ((1,), (0,)))):
            self.assertRaises(Unfit, is_let, TWINS, kind)
        self.assertRaises(TooMany, is_let, BEYOND, (9, (), (), ()))
        self.assertRaises(Unfit, is_let, BORDER, (0, (), (), ((0,),)))

    def test_of_the_rows_that_come(self):
        for craft in ALL:
            rows = rows_done(craft)
            if rows:
                told = [(rows[row], *more) for row, *more in let_kinds(cut_craft(craft))]
                self.assertEqual(told, let_kinds(craft))


class Laps(unittest.TestCase):

    def test_handed_on(self):
        sorts = [(shape, (0,), (0,)) for shape in range(3)]
        self.assertEqual([come_lap(RELAY, sort) for sort in sorts], [1, 2, 3])
        self.assertEqual([end_lap(RELAY, sort) for sort in sorts], [3, 2, 1])

    def test_behind_the_stands(self):
        # Slot 0 kept on is made by a deed that stands on a beginning; what 3 makes has no SORT.
        self.assertEqual((come_lap(STEPS, (0, (0,), (0,))), end_lap(STEPS, (0, (0,), (0,)))), (1, 1))
        self.assertEqual((come_lap(STEPS, (1, (0,), (0,))), end_lap(STEPS, (1, (0,), (0,)))), (2, 1))

    def test_as_plainly_told(self):
        for craft in ALL:
            come, end = plain_laps(craft)
            self.assertEqual(sorted(end), list(let_sorts(craft)))
            self.assertEqual([come_lap(craft, sort) for sort in let_sorts(craft)], [come[sort] for sort in let_sorts(craft)])
            self.assertEqual([end_lap(craft, sort) for sort in let_sorts(craft)], [end[sort] for sort in let_sorts(craft)])

    def test_no_let_sort(self):
        for call in (come_lap, end_lap):
            for sort in ((0, (0, 1), (0, 1)), (0, (0,), ()), (0, (0,), (1,)), (1, (), ()), (9, (0,), (0,)), (-1, (0,), (0,)),
                         (0, (1, 0), (0,)), (0, (), (0,))):
                self.assertRaises(Unfit, call, TWINS, sort)
            self.assertRaises(Unfit, call, NEVER, (0, (0,), (0,)))
            self.assertRaises(Unfit, call, BORDER, (5, (0,), (0,)))
            self.assertRaises(TooMany, call, BEYOND, (5, (0,), (0,)))


class Best(unittest.TestCase):

    def test_the_least_of_alike_ones(self):
        self.assertEqual([kind for kind in let_kinds(CHAIN) if kind not in best_kinds(CHAIN)],
                         [(1, (((0,), ()),), (), ())])
        self.assertEqual([kind for kind in let_kinds(MELDS) if kind not in best_kinds(MELDS)],
                         [(1, (((0,), (0,)), ((0,), ())), (0,), ())])

    def test_as_plainly_told(self):
        for craft in ALL:
            told = []
            for kind in let_kinds(craft):
                def is_like(other):
                    return (other[0] == kind[0] and sorted(taken(craft, other)) == sorted(taken(craft, kind))
                            and sorted(made(craft, other)) == sorted(made(craft, kind)))
                if not any(is_like(other) for other in told):
                    told.append(kind)
            self.assertEqual(best_kinds(craft), told)


class Borders(unittest.TestCase):

    def test_as_many_as_there_may_be(self):
        self.assertEqual(len(let_kinds(BORDER)) + sum(len(lost) for lost in struck(BORDER)), 1500)
        self.assertEqual((let_sorts(BORDER)[0], len(let_stands(BORDER))), ((0, (0,), (0,)), 4))
        self.assertLess(len(best_kinds(BORDER)), 1000)

    def test_too_many(self):
        for call in CALLS:
            self.assertRaises(TooMany, call, BEYOND)

    def test_unfit_ahead_of_too_many(self):
        broken = (BEYOND[0], (*BEYOND[1], 5))
        for call in (*CALLS, lambda craft: is_let(craft, None), lambda craft: come_lap(craft, (0, (), ())),
                     lambda craft: end_lap(craft, (0, (), ()))):
            for craft in (broken, *JUNK):
                self.assertRaises(Unfit, call, craft)


if __name__ == "__main__":
    unittest.main()
