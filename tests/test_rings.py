"""[16]: what LINES can tell: their mean, what one VERSION done again and again shows, what TREES bring."""

import unittest
from fractions import Fraction

from paidbyheirs.bundles import bundle_deeds, bundle_worth, is_bundle
from paidbyheirs.cuts import added, cut, taken_off
from paidbyheirs.errands import kinds_of
from paidbyheirs.errors import CanNot, TooMany, Unfit
from paidbyheirs.kinds import all_kinds, worth
from paidbyheirs.ledgers import cost
from paidbyheirs.let import let_kinds, let_sorts
from paidbyheirs.payments import even, is_enough, mean
from paidbyheirs.rings import brings, is_line_bundle, line_bundle, line_mean, one_again, web_beats_line
from paidbyheirs.webs import is_line
from tests.known import BEYOND, BOTH, CARRY, CHAIN, CRAFTS, DOUBLE, HALF, JUNK, KEPT, LATE, LONE, MELDS, NEVER, PAIRS, PASSES
from tests.known import RELAY, SHARES, SPROUT, STRAY, TWINS, deep, diced_crafts, variants
from tests.plain import plain_sorts, plain_struck, plain_worth
from tests.plain_anew import plain_legs, plain_most_in_lines, plain_trees
from tests.test_guarantees import some_webs

ONE = (1, 1)
NOUGHT = (0, 1)
WAIT = (0, (0,), (0,))
OTHERS = (True, False, None, "", 0, 1, -1, (), (0,), (0, 1), (1, 1), [0])
ALONE = tuple(craft for craft in (*CRAFTS, *diced_crafts(130)) if all(len(row[0]) < 2 for row in craft[1]))
# Two WAITS of one VERSION go on in one PART, or in two.
SPLITS = ((2, 2), (((), (), 1, 0, (("new", 4, ()), ("new", 8, ()))), ((0,), (), 0, 1, (("kept", 0, 0), ("kept", 0, 1))),
                   ((1,), ((0, 0),), 1, 1, (("none",), ("kept", 0, 1))), ((1,), ((0, 1), (0, 0)), 2, 1,
                                                                          (("none",), ("none",)))))
# A PART goes round that no LINE ends: only two heirs can.
TANGLE = ((2,), (((0,), (), 0, 0, (("new", 2, ((0, 1),)), ("kept", 0, 0))), ((), (), 2, 0, (("new", 0, ()), ("new", 4, ()))),
                 ((), (), 1, 0, (("none",), ("none",))), ((0,), (), 3, 0, (("kept", 0, 1), ("new", 1, ((0, 0),)))),
                 ((0,), ((0, 0),), 1, 0, (("none",), ("kept", 0, 0))), ((), (), 2, 0, (("new", 2, ()), ("new", 4, ())))))
# More and more KINDS in rows without two elders: too many of them.
CROWD = ((2,), tuple([((0,), (), cost, 0, (("kept", 0, 0), ("new", 1, BOTH[:2]))) for cost in range(200)]
                     + [((), (), 1, 0, (("new", 1, ()), ("new", 1, ())))]))


def value(fraction):
    return Fraction(*fraction)


def plain_is_line_bundle(craft, legs, thing):
    """Whether thing is a LINE BUNDLE."""
    if type(thing) is not tuple or not thing or not all(type(pair) is tuple and len(pair) == 2 for pair in thing):
        return False
    told = {repr(kind): (begin, end) for kind, begin, end in legs}
    if not all(repr(kind) in told and type(number) is int and number > 0 for kind, number in thing):
        return False
    kinds = [kind for kind, _ in thing]
    left = {}
    for kind, number in thing:
        begin, end = told[repr(kind)]
        left[end] = left.get(end, 0) + number
        left[begin] = left.get(begin, 0) - number
    left.pop(None, None)
    return kinds == sorted(set(kinds)) and all(many == 0 or many > 0 and not own[2] for own, many in left.items())


class LineMean(unittest.TestCase):

    def test_by_hand(self):
        # RELAY: 9, 2, 3, 4. CARRY: made, handed on or not, looked at. SPLITS: made, handed on, looked at both.
        for craft, said in ((RELAY, (9, 2)), (CARRY, (3, 2)), (HALF, (1, 2)), (STRAY, (5, 1)), (NEVER, NOUGHT),
                            (PASSES, NOUGHT),
                            (SPLITS, (5, 1)), (LATE, ONE), (SPROUT, (5, 2))):
            self.assertEqual(line_mean(craft), said)
        self.assertEqual([web_beats_line(craft) for craft in (RELAY, SPLITS, TWINS, SPROUT, NEVER)],
                         [False, False, True, False, False])
        # A look that makes two more to be looked at: one heir can only have one of them done.
        fork = ((2,), (((), (), 0, 0, (("new", 2, ()), ("new", 2, ()))),
                       ((0,), ((0, 0),), 0, 0, (("new", 2, ()), ("new", 2, ()))),
                       ((0,), ((0, 1),), 0, 0, (("none",), ("none",)))))
        self.assertEqual((line_mean(fork), mean(fork), web_beats_line(fork)), ((2, 1), (2, 1), False))

    def test_the_most_that_lines_cost(self):
        for craft in (*ALONE, SPLITS, TANGLE):
            own, most = value(line_mean(craft)), plain_most_in_lines(craft, 12)
            for many, costs in enumerate(most):
                self.assertLessEqual(costs, own * many)
            webs = some_webs(craft)
            for web in webs:
                if is_line(web):
                    self.assertLessEqual(cost(craft, web), own * len(web))
            # That just so much can be paid: all LINES of so many VERSIONS are there.
            longest = max(map(len, webs))
            self.assertEqual(max(cost(craft, web) for web in webs if is_line(web) and len(web) == longest),
                             most[longest])
            self.assertLessEqual(own, value(mean(craft)))
            self.assertIs(web_beats_line(craft), own < value(mean(craft)))

    def test_some_line_comes_as_near_as_one_likes(self):
        for craft in (*ALONE, SPLITS, TANGLE):
            if plain_legs(craft):
                own, most = value(line_mean(craft)), plain_most_in_lines(craft, 60)
                # What is lost where LINES begin and end does not grow with them.
                lost = [min(own * many - most[many] for many in range(first, first + 20)) for first in (20, 40)]
                self.assertEqual(lost[0], lost[1], msg=craft)

    def test_kinds_of_lines(self):
        """Those of the deeds of LINES are, those with two PARTS are not."""
        for craft in (*ALONE, SPLITS, TANGLE):
            kinds = {kind for kind, _, _ in plain_legs(craft)}
            self.assertTrue(kinds <= set(let_kinds(craft)))
            seen = {kind for web in some_webs(craft) if is_line(web) for kind in kinds_of(craft, web)}
            self.assertTrue(seen <= kinds)
        two = [kind for kind in all_kinds(SPLITS) if len(kind[3]) == 2]
        self.assertGreater(len(two), 1)
        self.assertFalse(set(two) & {kind for kind, _, _ in plain_legs(SPLITS)})


class LineBundle(unittest.TestCase):

    def test_its_own_judge(self):
        for craft in (*ALONE, SPLITS, TANGLE):
            legs = plain_legs(craft)
            if not legs:
                self.assertRaises(CanNot, line_bundle, craft)
                self.assertEqual(line_mean(craft), NOUGHT)
                continue
            bundle = line_bundle(craft)
            self.assertIs(is_line_bundle(craft, bundle), True)
            self.assertTrue(plain_is_line_bundle(craft, legs, bundle))
            self.assertEqual(Fraction(bundle_worth(craft, bundle), bundle_deeds(bundle)), value(line_mean(craft)))
            many = tuple((kind, number * 10 ** 20) for kind, number in bundle)
            self.assertIs(is_line_bundle(craft, many), True)
            # What ends oftener than it begins at part () can begin again: each is a BUNDLE.
            self.assertIs(is_bundle(craft, bundle), True)

    def test_ends_at_part_nothing_oftener(self):
        begin, left = (0, (), (0,), ((0,),)), (1, (((0,), (0,)),), (), ())
        self.assertIs(is_line_bundle(TWINS, ((begin, 2), (left, 2))), True)
        self.assertIs(is_line_bundle(TWINS, ((begin, 2), (left, 1))), False)
        self.assertIs(is_line_bundle(TWINS, ((begin, 1), (left, 2))), False)
        free = (0, (), (), ())
        self.assertIs(is_line_bundle(LONE, ((free, 5),)), False)
        put = (1, (((0,), ()),), (), ())
        self.assertIs(is_line_bundle(LONE, (((0, (), (0,), ()), 3), (put, 3))), True)
        # Put on put, none of them done: no begin at all is asked for.
        again = (1, (((), ()),), (), ())
        self.assertIs(is_line_bundle(LONE, ((again, 4),)), True)
        # It begins at part () once more than it ends there.
        self.assertIs(is_line_bundle(LONE, ((put, 1),)), False)
        self.assertIs(is_line_bundle(LONE, ((again, 1), (put, 1))), False)

    def test_less_worth_than_the_best(self):
        begin = (0, (), (), ())
        self.assertIs(is_line_bundle(TWINS, ((begin, 1),)), False)
        self.assertIs(is_line_bundle(CHAIN, (((1, (((0,), ()),), (), ()), 1), ((0, (), (0,), ()), 1))), False)

    def test_kinds_that_no_line_can_end(self):
        round_it = [kind for kind in let_kinds(TANGLE) if kind[:1] == (0,) and kind[2] == (0, 1) and len(kind[3]) == 1
                    and kind[1][0] == ((0, 1), kind[3][0])]
        self.assertGreater(len(round_it), 0)
        lines = {kind for kind, _, _ in plain_legs(TANGLE)}
        for kind in round_it:
            if kind not in lines:
                self.assertIs(is_line_bundle(TANGLE, ((kind, 1),)), False)
        self.assertTrue(set(round_it) - lines)
        self.assertIs(web_beats_line(TANGLE), True)

    def test_two_parts(self):
        make, left, right = (0, (), (0, 1), ((0,), (1,))), (1, (((0, 1), (0,)),), (), ()), (2, (((0, 1), (1,)),), (),
                                                                                            ())
        self.assertIs(is_bundle(TWINS, ((make, 1), (left, 1), (right, 1))), True)
        self.assertIs(is_line_bundle(TWINS, ((make, 1), (left, 1), (right, 1))), False)
        self.assertIs(is_line_bundle(TWINS, ((make, 1), (left, 2))), False)

    def test_bent_bundles(self):
        for craft, bundle in ((TWINS, line_bundle(TWINS)), (CHAIN, line_bundle(CHAIN)), (SPROUT, line_bundle(SPROUT)),
                              (RELAY, line_bundle(RELAY))):
            legs, own = plain_legs(craft), value(line_mean(craft))
            for thing in (*JUNK, *variants(bundle, OTHERS), deep(12)):
                said = plain_is_line_bundle(craft, legs, thing)
                said = said and Fraction(bundle_worth(craft, thing), bundle_deeds(thing)) == own
                self.assertIs(is_line_bundle(craft, thing), said, msg=thing)


class Trees(unittest.TestCase):

    def test_by_hand(self):
        none = (NOUGHT,) * 3
        for craft, payments, sort, said in (
                (CHAIN, none, WAIT, None), (CHAIN, ((9, 1), ONE, (7, 1)), WAIT, (-7, 1)),
                (CHAIN, (NOUGHT, (2, 1), (1, 2)), WAIT, (-1, 2)),
                (TWINS, ((9, 1), (1, 3), (2, 3)), (0, (0, 1), (1,)), (-2, 3)), (SPROUT, (ONE, (4, 1), (6, 1)),
                                                                                (1, (0,), (0,)), (-6, 1)),
                (CARRY, none, WAIT, ONE), (CARRY, (NOUGHT, (-1, 5), NOUGHT), WAIT, None),
                (CARRY, (NOUGHT, (1, 5), (1, 3)), WAIT, (2, 3)),
                # A PART of both is looked at at once, or one first, the other handed on.
                (SPLITS, (*none[:2], ONE, NOUGHT), (1, (0, 1), (0, 1)), (2, 1)), (SPLITS, (*none, NOUGHT),
                                                                                  (1, (0, 1), (0, 1)), None),
                (SPLITS, (*none[:2], (2, 1), (5, 1)), (1, (0, 1), (0, 1)), (-3, 1))):
            self.assertEqual(brings(craft, payments, sort), said, msg=(craft, payments, sort))

    def test_a_sort_that_is_not_let(self):
        for craft, sort in ((TWINS, (0, (0, 1), (0, 1))), (LONE, WAIT), (CHAIN, (0, (), ())), (CHAIN, (0, (0,), ())),
                            (CHAIN, (1, (0,), (0,))), (NEVER, WAIT), (HALF, (0, (0, 1), (0,)))):
            self.assertRaises(CanNot, brings, craft, even(craft, ONE), sort)

    def test_higher_and_higher_trees(self):
        for craft in (*ALONE, SPLITS, TANGLE):
            let = plain_struck(craft)[1]
            for payments in some_payments(craft):
                gains = {kind: plain_worth(craft, kind) - value(payments[kind[0]]) for kind in let}
                self.check_trees(craft, let, gains, payments)

    def check_trees(self, craft, let, gains, payments):
        sorts = let_sorts(craft)
        best = plain_trees(craft, let, gains, 60)
        greatest = {}
        for sort in sorts:
            told = brings(craft, payments, sort)
            greatest[sort] = told
            if told is None:
                self.assertGreater(best[60][sort], best[30][sort])
            else:
                self.assertEqual((best[60][sort], best[len(sorts)][sort]), (value(told), value(told)))
        # The guarantee: enough exactly if all have a greatest, and nothing that takes no PART gains.
        again = []
        for kind in let:
            _, takes, _, makes = plain_sorts(craft, kind)
            if not takes:
                tops = [greatest[sort] for sort in makes]
                if None in tops or gains[kind] + sum(value(top) for top in tops) > 0:
                    again.append(kind)
        self.assertEqual(is_enough(craft, payments), None not in greatest.values() and not again)
        rows = [kind[0] for kind in again if kind[1]]
        self.assertEqual(one_again(craft, payments), min(rows, default=None))
        if rows:
            self.assertIs(is_enough(craft, payments), False)


def some_payments(craft):
    own, rows = mean(craft), range(len(craft[1]))
    told = [even(craft, own), even(craft, taken_off(own, (1, 3))), even(craft, taken_off(own, (2, 1))),
            even(craft, added(own, ONE))]
    told.append(tuple(cut(9 * row % 4, 1 + row % 3) for row in rows))
    return told


class OneAgain(unittest.TestCase):

    def test_by_hand(self):
        for craft, payments, said in (
                (SPROUT, ((9, 1), NOUGHT, (9, 2)), 1), (SPROUT, ((9, 1), NOUGHT, (5, 1)), None),
                (TWINS, ((9, 1), (-1, 1), ONE), 1), (TWINS, ((9, 1), NOUGHT, (-1, 2)), 2),
                (TWINS, ((9, 1), NOUGHT, NOUGHT), None),
                (CHAIN, (NOUGHT, (1, 2), (9, 1)), 1), (CHAIN, (NOUGHT, ONE, (-1, 1)), 1),
                (CHAIN, (NOUGHT, (2, 1), (-1, 1)), 2),
                # Those without an elder do not count.
                (STRAY, ((1, 1), NOUGHT), None), (STRAY, ((1, 1), (-1, 1)), None), (NEVER, ((-1, 1),), None),
                (HALF, (NOUGHT, NOUGHT), None)):
            self.assertEqual(one_again(craft, payments), said, msg=(craft, payments))

    def test_again_and_again_it_breaks_payments(self):
        payments = even(SPROUT, (2, 1))
        web = ((0, ()), *[deed for at in range(5) for deed in ((1, (0,)), (2, (1 + 2 * at,)))])
        self.assertEqual((cost(SPROUT, web), one_again(SPROUT, payments)), (25, 1))
        self.assertGreater(cost(SPROUT, web), 2 * len(web))


class Wrong(unittest.TestCase):

    CALLS = (line_mean, line_bundle, lambda craft: is_line_bundle(craft, None), web_beats_line)
    PAID = (lambda craft, own: brings(craft, own, (9, (), ())), one_again)

    def test_two_elders(self):
        for craft in (MELDS, PAIRS, SHARES, (NEVER[0], (*NEVER[1], ((0, 0), (), 0, 0, (("none",),))))):
            for call in self.CALLS:
                self.assertRaises(Unfit, call, craft)
            for call in self.PAID:
                self.assertRaises(Unfit, call, craft, even(craft, ONE))
                self.assertRaises(Unfit, call, craft, ())

    def test_the_order_of_errors(self):
        self.assertGreater(len([row for row in BEYOND[1] if len(row[0]) == 2]), 1)
        for craft in (BEYOND, CROWD):
            for call in self.CALLS:
                self.assertRaises(TooMany, call, craft)
            for call in self.PAID:
                self.assertRaises(TooMany, call, craft, ())
        for craft in (*JUNK, (BEYOND[0], (*BEYOND[1], 5))):
            for call in self.CALLS:
                self.assertRaises(Unfit, call, craft)
            for call in self.PAID:
                self.assertRaises(Unfit, call, craft, ())
        for call in self.PAID:
            for payments in ((), (ONE,), (ONE, ONE, (2, 2)), (ONE,) * 4, (ONE, ONE, None)):
                self.assertRaises(Unfit, call, TWINS, payments)

    def test_the_best_is_told_at_the_bounds(self):
        ample = ((2, 2, 2), (((), (), 1, 0, (("new", 10 ** 6, ()), ("new", 3, ()))),
                             ((0,), ((0, 0),), 2, 1, (("new", 5, BOTH[:2]), ("kept", 0, 1))),
                             ((1,), (), 10 ** 6, 2, (("kept", 0, 1), ("new", 7, BOTH[:2]))),
                             ((2,), (), 4, 0, (("kept", 0, 0), ("kept", 0, 1))),
                             ((2,), BOTH[:2], 5, 1, (("none",), ("new", 9, ()))),
                             ((0,), ((0, 1),), 6, 0, (("kept", 0, 0), ("new", 2, BOTH[:1])))))
        bundle = line_bundle(ample)
        self.assertIs(is_line_bundle(ample, bundle), True)
        self.assertTrue(plain_is_line_bundle(ample, plain_legs(ample), bundle))
        self.assertEqual(sum(worth(ample, kind) * number for kind, number in bundle), bundle_worth(ample, bundle))
        self.assertIn(one_again(ample, even(ample, ONE)), range(1, 6))


if __name__ == "__main__":
    unittest.main()
