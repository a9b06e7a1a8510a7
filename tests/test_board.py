"""[22]: a Board: deeds, what is taken back and done again, looks, accounts, twins."""

import copy
import inspect
import random
import unittest
from fractions import Fraction

from paidbyheirs.board import Board
from paidbyheirs.bundles import plan_for
from paidbyheirs.cuts import added, cut
from paidbyheirs.errands import kinds_of
from paidbyheirs.errors import NoRow, NoSlot, NothingDone, NoVersion, TooMany, Unfit
from paidbyheirs.kinds import made, taken, worth
from paidbyheirs.ledgers import cost, look_now, paid, unforced
from paidbyheirs.let import let_kinds, let_sorts
from paidbyheirs.payments import even, mean, prices
from paidbyheirs.webs import cut_web, next_deeds
from tests.known import BEYOND, CHAIN, CRAFTS, JUNK, KEPT, LONE, MELDS, NEVER, PAIRS, SHARES, STRAY, TWINS, as_lists, as_mixed
from tests.known import diced_crafts, diced_webs

NOUGHT, ONE = (0, 1), (1, 1)
METHODS = {"do": ("row", "elders"), "keep": ("versions",), "undo": (), "redo": (), "web": (), "can_come": (),
           "cost_now": (),
           "paid_now": (), "look": ("version", "slot"), "undone": (), "kind": ("version",),
           "accounts": ("payments", "prices"), "twin": ()}
SORTS = let_sorts(TWINS)
LESS = tuple((sort, (-2, 1)) for sort in SORTS)
TWO = ((2, 1),) * 3


def desk_with(craft, web):
    """A Board on which these deeds were done."""
    desk = Board(craft)
    for row, elders in web:
        desk.do(row, elders)
    return desk


def state(desk):
    """All that can be seen of a Board, and what can be taken back and done again, by a twin."""
    seen = [desk.web(), desk.can_come(), desk.cost_now(), desk.paid_now(), desk.undone()]
    for name in ("undo", "redo"):
        other, way = desk.twin(), []
        try:
            while True:
                way.append((getattr(other, name)(), other.web()))
        except NothingDone:
            seen.append(way)
    return seen


class Interface(unittest.TestCase):

    def test_each_method_is_defined_in_the_class_itself(self):
        for name, names in METHODS.items():
            told = inspect.signature(vars(Board)[name]).parameters
            self.assertEqual(tuple(told), ("self", *names))
            self.assertEqual({(one.kind, one.default) for one in told.values()},
                             {(inspect.Parameter.POSITIONAL_OR_KEYWORD, inspect.Parameter.empty)})
        self.assertIn("__eq__", vars(Board))

    def test_what_is_no_craft(self):
        for craft in (*JUNK, (BEYOND[0], (*BEYOND[1], 5))):
            self.assertRaises(Unfit, Board, craft)
        self.assertEqual((Board(craft=NEVER).web(), Board(BEYOND).web()), ((), ()))


class Deeds(unittest.TestCase):

    def test_do(self):
        desk = Board(TWINS)
        self.assertIsNone(desk.do(0, ()))
        self.assertIsNone(desk.do(row=1, elders=[0]))
        self.assertEqual(desk.web(), ((0, ()), (1, (0,))))
        self.assertEqual(repr(desk.web()), "((0, ()), (1, (0,)))")

    def test_do_wrong_inputs(self):
        desk = desk_with(SHARES, ((0, ()), (0, ()), (1, (0, 1))))
        before = state(desk)
        for row, elders, kind, kept in (
                (4, (), NoRow, {"number": 4}), (-1, (9, 9, 9), NoRow, {"number": -1}), (0, (0,), Unfit, {}),
                (1, (0,), Unfit, {}),
                (1, (0, 9, 1), Unfit, {}), (1, (), Unfit, {}), (1, (9, 7), NoVersion, {"number": 9}),
                (1, (2, 3), NoVersion, {"number": 3}),
                (1, (-1, 9), NoVersion, {"number": -1}), (1, (0, 2), Unfit, {}), (1, (2, 2), Unfit, {}),
                (2, (0,), Unfit, {}), (3, (0, 2), Unfit, {}),
                (2, (3,), NoVersion, {"number": 3})):
            with self.assertRaises(kind) as caught:
                desk.do(row, elders)
            self.assertEqual(vars(caught.exception), kept, msg=(row, elders))
            self.assertEqual(state(desk), before)
        desk.do(3, (2, 0))
        self.assertEqual(len(desk.web()), 4)

    def test_keep(self):
        desk = desk_with(CHAIN, ((0, ()), (1, (0,)), (1, (1,)), (2, (2,)), (2, (1,))))
        before = state(desk)
        for versions, number in (((0, 5), 5), ((7, 9), 7), ((-1,), -1), ((4, 5), 5)):
            with self.assertRaises(NoVersion) as caught:
                desk.keep(versions)
            self.assertEqual(vars(caught.exception), {"number": number})
            self.assertEqual(state(desk), before)
        self.assertIsNone(desk.keep((4,)))
        self.assertEqual(desk.web(), ((0, ()), (1, (0,)), (2, (1,))))
        self.assertIsNone(desk.keep(versions=[]))
        self.assertEqual((desk.web(), desk.undo(), desk.web()), ((), "keep", ((0, ()), (1, (0,)), (2, (1,)))))

    def test_undo_and_redo(self):
        desk = Board(CHAIN)
        for call in (desk.undo, desk.redo):
            with self.assertRaises(NothingDone) as caught:
                call()
            self.assertEqual(vars(caught.exception), {})
        for row, elders in ((0, ()), (1, (0,)), (2, (1,))):
            desk.do(row, elders)
        desk.keep((1,))
        self.assertEqual([desk.undo(), desk.undo(), len(desk.web())], ["keep", "do", 2])
        self.assertEqual([desk.redo(), len(desk.web()), desk.redo(), desk.web()],
                         ["do", 3, "keep", ((0, ()), (1, (0,)))])
        self.assertRaises(NothingDone, desk.redo)
        self.assertEqual([desk.undo() for _ in range(4)], ["keep", "do", "do", "do"])
        self.assertRaises(NothingDone, desk.undo)
        self.assertEqual((desk.web(), [desk.redo() for _ in range(2)]), ((), ["do", "do"]))
        # Behind a new deed nothing is done again; one that is refused leaves it as it was, looks do too.
        self.assertRaises(Unfit, desk.do, 0, (0,))
        desk.look(1, 0), desk.can_come(), desk.kind(0), desk.twin()
        twin = desk.twin()
        desk.do(1, (1,))
        self.assertRaises(NothingDone, desk.redo)
        self.assertEqual((twin.redo(), twin.redo(), twin.web()), ("do", "keep", ((0, ()), (1, (0,)))))
        self.assertEqual((desk.undo(), desk.redo()), ("do", "do"))
        desk.undo()
        desk.keep((0,))
        self.assertRaises(NothingDone, desk.redo)

    def test_diced_deeds(self):
        """Against a list of all WEBS that there were."""
        dice = random.Random(6)
        for craft in (*CRAFTS, *diced_crafts(30)):
            desk, past, future = Board(craft), [((), None)], []
            for _ in range(40):
                word = dice.choice(("do", "do", "do", "keep", "undo", "redo"))
                web = past[-1][0]
                if word == "do" and next_deeds(craft, web) and len(web) < 12:
                    deed = dice.choice(next_deeds(craft, web))
                    desk.do(*deed)
                    past, future = [*past, ((*web, deed), "do")], []
                elif word == "keep":
                    own = tuple(sorted(dice.sample(range(len(web)), dice.randint(0, len(web)))))
                    desk.keep(own)
                    past, future = [*past, (cut_web(web, own), "keep")], []
                elif word == "undo" and len(past) > 1:
                    self.assertEqual(desk.undo(), past[-1][1])
                    future.append(past.pop())
                elif word == "redo" and future:
                    self.assertEqual(desk.redo(), future[-1][1])
                    past.append(future.pop())
                elif word in ("undo", "redo"):
                    self.assertRaises(NothingDone, getattr(desk, word))
                self.assertEqual(desk.web(), past[-1][0])
            web = past[-1][0]
            self.assertEqual((desk.can_come(), desk.cost_now(), desk.paid_now(), desk.undone()),
                             (next_deeds(craft, web), cost(craft, web), paid(craft, web), unforced(craft, web)))


class Looks(unittest.TestCase):

    def test_as_the_functions_tell(self):
        for craft in (*CRAFTS, *diced_crafts(30)):
            for web in diced_webs(craft, 2, 9):
                desk = desk_with(craft, web)
                kinds = kinds_of(craft, web)
                for version, (row, _) in enumerate(web):
                    self.assertEqual(desk.kind(version), kinds[version])
                    for slot in range(craft[0][craft[1][row][3]]):
                        self.assertEqual(desk.look(version, slot), look_now(craft, web, version, slot))
                self.assertEqual(desk.web(), web)

    def test_kinds_that_later_looks_turn(self):
        desk = desk_with(TWINS, ((0, ()),))
        told = [desk.kind(0)]
        for row in (2, 2, 1):
            desk.do(row, (0,))
            told.append(desk.kind(0))
        self.assertEqual([kind[2:] for kind in told], [((), ()), ((1,), ((1,),)), ((1,), ((1,),)),
                                                       ((0, 1), ((0,), (1,)))])
        desk.undo()
        self.assertEqual(desk.kind(version=0), told[2])

    def test_wrong_inputs(self):
        desk = desk_with(TWINS, ((0, ()), (1, (0,))))
        for call, kind, kept in ((lambda: desk.look(2, 9), NoVersion, {"number": 2}), (lambda: desk.look(-1, 0),
                                                                                       NoVersion, {"number": -1}),
                                 (lambda: desk.look(0, 2), NoSlot, {"slot": 2}), (lambda: desk.look(1, 0), NoSlot,
                                                                                  {"slot": 0}),
                                 (lambda: desk.look(0, -1), NoSlot, {"slot": -1}), (lambda: desk.kind(2), NoVersion,
                                                                                    {"number": 2}),
                                 (lambda: desk.kind(-1), NoVersion, {"number": -1})):
            with self.assertRaises(kind) as caught:
                call()
            self.assertEqual(vars(caught.exception), kept)
        self.assertRaises(NoVersion, Board(TWINS).look, 0, 0)
        self.assertRaises(NoVersion, Board(TWINS).kind, 0)

    def test_no_rows_come(self):
        desk = Board(NEVER)
        self.assertEqual((desk.can_come(), desk.cost_now(), desk.paid_now(), desk.undone(), desk.web()),
                         ([], 0, (), (), ()))
        self.assertEqual(desk.accounts((ONE,), ()), [(NOUGHT, NOUGHT)])

    def test_each_told_list_is_new(self):
        desk = desk_with(TWINS, ((0, ()), (1, (0,))))
        before = state(desk)
        desk.can_come().clear()
        desk.accounts(TWO, LESS).clear()
        self.assertEqual((state(desk), len(desk.accounts(TWO, LESS))), (before, 3))


class Accounts(unittest.TestCase):

    def test_by_hand(self):
        desk = desk_with(CHAIN, ((0, ()), (1, (0,)), (1, (1,)), (2, (2,))))
        price = (((0, (0,), (0,)), (5, 2)),)
        self.assertEqual(desk.accounts((NOUGHT, ONE, NOUGHT), price),
                         [(NOUGHT, NOUGHT), (NOUGHT, NOUGHT), (NOUGHT, (5, 2)), (NOUGHT, (5, 2)), (NOUGHT, NOUGHT)])
        self.assertEqual(desk.accounts(payments=((1, 3), (1, 2), (-1, 1)), prices=[[[0, [0], [0]], [-1, 4]]]),
                         [(NOUGHT, NOUGHT), ((1, 3), NOUGHT), ((-1, 6), (-1, 4)), ((-2, 3), (-1, 4)),
                          ((-5, 3), NOUGHT)])
        self.assertEqual(Board(CHAIN).accounts((ONE, ONE, ONE), price), [(NOUGHT, NOUGHT)])
        self.assertEqual(desk_with(STRAY, ((0, ()), (0, ()))).accounts(((6, 1), ONE), ()),
                         [(NOUGHT, NOUGHT), (ONE, NOUGHT), ((2, 1), NOUGHT)])

    def test_step_by_step(self):
        for craft in (*CRAFTS, *diced_crafts(40)):
            own = even(craft, mean(craft))
            shows = prices(craft, own)
            for payments, told in ((own, shows), (tuple(cut(row, 2) for row in range(len(craft[1]))), shows),
                                   (own, tuple((sort, cut(at, 3)) for at, (sort, _) in enumerate(shows)))):
                for web in ((), *diced_webs(craft, 2, 9)):
                    self.check(craft, web, payments, told, told == shows and payments == own)

    def check(self, craft, web, payments, told, shown):
        accounts = desk_with(craft, web).accounts(payments, told)
        worths = {sort: Fraction(*price) for sort, price in told}
        left, parts, plan = Fraction(0), [], plan_for(craft, web)
        said = [(left, Fraction(0))]
        for kind, _ in plan:
            left += Fraction(*payments[kind[0]]) - worth(craft, kind)
            parts.extend(made(craft, kind))
            for sort in taken(craft, kind):
                parts.remove(sort)
            said.append((left, sum((worths[sort] for sort in parts), Fraction(0))))
        self.assertEqual([(Fraction(*left), Fraction(*owed)) for left, owed in accounts], said)
        self.assertEqual(accounts, [tuple((part.numerator, part.denominator) for part in pair) for pair in said])
        # What the guarantee says.
        self.assertEqual(accounts[-1][1], NOUGHT)
        self.assertEqual(said[-1][0], sum((Fraction(*payments[row]) for row, _ in web), Fraction(0)) - cost(craft, web))
        if shown:
            self.assertTrue(all(left >= owed for left, owed in said))

    def test_wrong_inputs(self):
        desk = desk_with(TWINS, ((0, ()), (1, (0,))))
        before = state(desk)
        for payments in ((), TWO[:2], (*TWO, ONE), (ONE, ONE, (2, 4)), (ONE, ONE, 1), (ONE, ONE, (1, 0))):
            self.assertRaises(Unfit, desk.accounts, payments, LESS)
        for told in ((), LESS[1:], LESS[:-1], LESS[::-1], (*LESS, LESS[-1]), (*LESS[:3], (SORTS[3], (2, 4))),
                     (*LESS[:3], (SORTS[3], 1)),
                     (*LESS[:3], ((0, (1,), ()), ONE)), (*LESS[:3], LESS[2]), tuple(SORTS), ((LESS,),) * 4,
                     (*LESS[:3], (*LESS[3], 1))):
            self.assertRaises(Unfit, desk.accounts, TWO, told)
        self.assertEqual(state(desk), before)
        self.assertRaises(TooMany, Board(BEYOND).accounts, (), ())
        self.assertEqual(let_sorts(LONE), ())
        self.assertEqual(desk_with(LONE, ((0, ()),)).accounts((ONE, ONE), ()), [(NOUGHT, NOUGHT), (ONE, NOUGHT)])
        self.assertRaises(Unfit, Board(LONE).accounts, (ONE, ONE), (((0, (0,), (0,)), ONE),))


class Twins(unittest.TestCase):

    def test_a_twin_holds_the_same_and_goes_its_own_way(self):
        desk = desk_with(TWINS, ((0, ()), (1, (0,)), (2, (0,))))
        desk.keep((1,))
        desk.undo()
        before = state(desk)
        mate = desk.twin()
        self.assertIsInstance(mate, Board)
        self.assertEqual(state(mate), before)
        mate.do(1, (0,))
        self.assertEqual(state(desk), before)
        mate.undo(), mate.undo(), mate.keep(())
        self.assertEqual(state(desk), before)
        other = desk.twin()
        desk.redo(), desk.do(0, ())
        self.assertEqual(state(other), before)
        self.assertIs(desk.twin() == desk, True)

    def test_equal(self):
        desk, other = desk_with(TWINS, ((0, ()), (1, (0,)))), desk_with(as_lists(TWINS), [[0, []], [1, [0]]])
        self.assertEqual((desk == other, desk != other, desk == desk), (True, False, True))
        other.do(0, ())
        self.assertEqual((desk == other, desk != other), (False, True))
        other.undo()
        # What can be taken back or done again does not count.
        self.assertEqual((desk == other, desk != other), (True, False))
        uneven = desk_with((TWINS[0], (*TWINS[1][:2], (*TWINS[1][2][:2], 9, *TWINS[1][2][3:]))), ((0, ()), (1, (0,))))
        self.assertEqual((uneven.web() == desk.web(), uneven == desk, uneven != desk), (True, False, True))
        self.assertEqual((Board(CHAIN) == Board(LONE), Board(CHAIN) == Board(CHAIN)), (False, True))
        for thing in (None, 5, "", (), TWINS, desk.web(), (TWINS, desk.web()), [desk], Board):
            self.assertEqual((desk == thing, desk != thing, thing == desk, thing != desk), (False, True, False, True))


class Calls(unittest.TestCase):

    def test_lists_for_tuples_and_what_is_changed_afterwards(self):
        for turned in (as_lists, as_mixed, lambda value: as_mixed(value, 1)):
            craft = turned(PAIRS)
            web = ((0, ()), (1, (0,)), (2, (0, 1)), (3, (2, 0)), (1, (3,)))
            before = copy.deepcopy(craft)
            desk = Board(craft)
            self.assertEqual(craft, before)
            spoil(craft)
            for row, elders in web:
                own = turned(elders)
                desk.do(row, own)
                spoil(own)
            same = desk_with(PAIRS, web)
            self.assertEqual(state(desk), state(same))
            self.assertIs(desk == same, True)
            keeps = turned((1, 2))
            desk.keep(keeps)
            spoil(keeps)
            same.keep((1, 2))
            self.assertEqual(state(desk), state(same))
            self.assertEqual(repr(desk.web()), repr(same.web()))
            own = even(PAIRS, mean(PAIRS))
            told = turned(own), turned(prices(PAIRS, own))
            kept = copy.deepcopy(told)
            self.assertEqual(desk.accounts(*told), same.accounts(payments=own, prices=prices(PAIRS, own)))
            self.assertEqual(told, kept)
            self.assertEqual(desk.accounts(*told), desk.accounts(*told))

    def test_kinds_of_results(self):
        desk = desk_with(KEPT, ((0, ()), (1, (0,)), (2, (1,))))
        self.assertEqual([type(told) for told in (desk.web(), desk.can_come(), desk.cost_now(), desk.paid_now(),
                                                  desk.undone(), desk.kind(0),
                                                  desk.look(0, 0), desk.accounts(((1, 1),) * 3,
                                                                                 prices(KEPT, ((1, 1),) * 3)),
                                                                                 desk.undo())],
                         [tuple, list, int, tuple, tuple, tuple, int, list, str])

    def test_long_webs(self):
        web = diced_webs(MELDS, 1, 60)[0]
        desk = desk_with(MELDS, web)
        own = even(MELDS, added(mean(MELDS), ONE))
        self.assertEqual((desk.web(), desk.cost_now(), len(desk.accounts(own, prices(MELDS, own)))),
                         (web, cost(MELDS, web), 61))
        self.assertEqual([desk.undo() for _ in range(60)], ["do"] * 60)
        self.assertEqual(len(let_kinds(MELDS)), 6)


def spoil(value):
    """Change each list in value."""
    if isinstance(value, (list, tuple)):
        for part in value:
            spoil(part)
    if isinstance(value, list):
        value.append(7)


if __name__ == "__main__":
    unittest.main()
