"""The guarantees of [11], [13] and [14], on small CRAFTS and all their WEBS of few VERSIONS."""

import unittest
from fractions import Fraction

from paidbyheirs.bundles import begun, bundle_deeds, bundle_of, bundle_rows, bundle_worth, ended, is_bundle, is_plan, pending
from paidbyheirs.bundles import plan_for, repeated, rest, web_of
from paidbyheirs.crafts import rows_done
from paidbyheirs.cuts import added, cut, taken_off
from paidbyheirs.errands import flags_of
from paidbyheirs.errors import CanNot
from paidbyheirs.kinds import made, worth
from paidbyheirs.ledgers import cost
from paidbyheirs.let import let_kinds, let_sorts, struck
from paidbyheirs.lines import craft_columns, is_gaining, is_rates
from paidbyheirs.payments import breaking, even, is_breaking, is_enough, is_prices, mean, mean_bundle, prices
from tests.known import CRAFTS, diced_crafts
from tests.test_guarantees import some_webs

ALL = (*CRAFTS, *diced_crafts(40))


def value(fraction):
    return Fraction(*fraction)


def some_payments(craft):
    """PAYMENTS about the border: the mean, a little more, a little less, and uneven ones."""
    own, rows = mean(craft), range(len(craft[1]))
    told = [even(craft, own), even(craft, added(own, (1, 7))), even(craft, taken_off(own, (1, 7)))]
    told.append(tuple(cut(5 * row % 4, 1 + row % 3) for row in rows))
    told.append(tuple(taken_off(added(own, own), cut(row, 2)) for row in rows))
    bundle = mean_bundle(craft) if let_kinds(craft) else ()
    often = bundle_rows(craft, bundle) if bundle else [0] * len(rows)
    first = [row for row in rows if often[row]][:1]
    # All that the mean BUNDLE costs is paid by one ROW of it.
    told.append(tuple(cut(bundle_worth(craft, bundle), often[row]) if row in first else (0, 1) for row in rows))
    return told


class OnAllWebs(unittest.TestCase):
    """Each check looks at one CRAFT and its WEBS."""

    def each(self, check):
        for craft in ALL:
            with self.subTest(craft=craft):
                check(craft, some_webs(craft))

    def test_each_web_has_a_whole_plan(self):
        self.each(self.check_plans)

    def check_plans(self, craft, webs):
        let = let_kinds(craft)
        for web in webs:
            plan = plan_for(craft, web)
            self.assertTrue(is_plan(craft, plan))
            self.assertEqual((web_of(plan), pending(plan)), (web, ()))
            self.assertEqual([kind for kind, _ in plan if kind not in let], [])
            self.assertEqual(tuple(kind[2] for kind, _ in plan), flags_of(craft, web))
            if web:
                bundle = bundle_of(plan)
                self.assertEqual((bundle_worth(craft, bundle), bundle_deeds(bundle)), (cost(craft, web), len(web)))
                self.assertEqual(bundle_rows(craft, bundle), tuple(sum(row == own for row, _ in web)
                                                                   for own in range(len(craft[1]))))
        for web in webs[-3:]:
            self.assertTrue(web == () or is_bundle(craft, bundle_of(plan_for(craft, web))))

    def test_a_kind_is_let_exactly_if_it_stands_in_a_whole_plan(self):
        self.each(self.check_let)

    def check_let(self, craft, webs):
        """Of each let KIND: what it takes is begun, then it stands there, then all is ended."""
        laps = kind_laps(craft)
        for kind in list(laps)[:40]:
            whole = ended(craft, plan_with(craft, laps, kind))
            self.assertIn(kind, [own for own, _ in whole])
            self.assertTrue(is_plan(craft, whole))
            self.assertEqual(pending(whole), ())
            self.assertEqual(tuple(own[2] for own, _ in whole), flags_of(craft, web_of(whole)))
            self.assertEqual(sum(worth(craft, own) for own, _ in whole), cost(craft, web_of(whole)))
        lost = [kind for struck_now in struck(craft) for kind in struck_now]
        seen = {kind for web in webs for kind, _ in plan_for(craft, web)}
        self.assertEqual(seen & set(lost), set())

    def test_what_is_let_can_be_begun_and_ended(self):
        self.each(self.check_begun)

    def check_begun(self, craft, webs):
        sorts = let_sorts(craft)
        plan = begun(craft, sorts[:6])
        self.assertEqual(pending(ended(craft, plan)), ())
        for web in webs[-2:]:
            self.assertEqual(ended(craft, plan_for(craft, web))[:len(web)], plan_for(craft, web))

    def test_prices_or_a_bundle_and_never_both(self):
        self.each(self.check_prices)

    def check_prices(self, craft, webs):
        for payments in some_payments(craft):
            said = is_enough(craft, payments)
            columns = craft_columns(craft, payments) if let_kinds(craft) else None
            if said:
                own = prices(craft, payments)
                self.assertTrue(is_prices(craft, payments, own))
                self.assertRaises(CanNot, breaking, craft, payments)
                self.assertTrue(columns is None or is_rates(columns, tuple(price for _, price in own)))
                for web in webs:
                    self.assertLessEqual(cost(craft, web), sum(value(payments[row]) for row, _ in web))
                for row in rows_done(craft):
                    self.assertGreaterEqual(value(payments[row]), craft[1][row][2])
            else:
                bundle = breaking(craft, payments)
                self.assertTrue(is_breaking(craft, payments, bundle))
                self.assertRaises(CanNot, prices, craft, payments)
                self.assertFalse(is_gaining(columns, tuple([0] * len(columns))))
                self.check_broken(craft, payments, bundle)

    def check_broken(self, craft, payments, bundle):
        """Done often enough, the BUNDLE costs more than all deeds pay, what begins and ends it with them."""
        pays = sum((value(payments[kind[0]]) * number for kind, number in bundle), Fraction(0))
        gain = bundle_worth(craft, bundle) - pays
        plan = repeated(craft, bundle, 1)
        paid = sum((value(payments[kind[0]]) for kind, _ in plan), Fraction(0))
        short = paid - pays - rest(craft, bundle)[1]
        many = max(1, int(short / gain) + 1)
        if many * bundle_deeds(bundle) <= 300:
            web = web_of(repeated(craft, bundle, many))
            self.assertGreater(cost(craft, web), sum(value(payments[row]) for row, _ in web))

    def test_no_web_costs_more_than_the_mean(self):
        self.each(self.check_mean)

    def check_mean(self, craft, webs):
        own = value(mean(craft))
        for web in webs:
            self.assertLessEqual(cost(craft, web), own * len(web))
        if let_kinds(craft):
            bundle = mean_bundle(craft)
            steps, costs = rest(craft, bundle)
            self.assertEqual(bundle_worth(craft, bundle), own * bundle_deeds(bundle))
            for many in (1, 20):
                web = web_of(repeated(craft, bundle, many))
                self.assertEqual(own * len(web) - cost(craft, web), own * steps - costs)


def kind_laps(craft):
    """The laps in which the let KINDS come, as the document tells them."""
    let, laps, come = let_kinds(craft), {}, {}
    while len(laps) < len(let):
        fresh = []
        for kind in let:
            needs = [(elder, *more) for elder, (flags, part) in zip(craft[1][kind[0]][0], kind[1])
                     for more in ([(flags,), (flags, part)] if part else [(flags,)])]
            if kind not in laps and all(need in come for need in needs):
                fresh.append((kind, 1 + max([come[need] for need in needs], default=0)))
        for kind, lap in fresh:
            laps[kind] = lap
            for given in [(craft[1][kind[0]][3], kind[2]), *made(craft, kind)]:
                come.setdefault(given, lap)
    return laps


def plan_with(craft, laps, kind):
    """A PLAN of let KINDS that ends with a STEP of this KIND, all that it stands on and takes ahead of it."""
    plan, givers = (), []
    for elder, (flags, part) in zip(craft[1][kind[0]][0], kind[1]):
        fit = [own for own in laps if (craft[1][own[0]][3], own[2]) == (elder, flags) and laps[own] < laps[kind]
               and (not part or part in own[3])]
        plan = (*plan, *moved(plan_with(craft, laps, fit[0]), len(plan)))
        givers.append((len(plan) - 1, fit[0][3].index(part) if part else None))
    return (*plan, (kind, tuple(givers)))


def moved(plan, many):
    """The STEPS of plan behind so many others."""
    return tuple((kind, tuple((version + many, number) for version, number in givers)) for kind, givers in plan)


if __name__ == "__main__":
    unittest.main()
