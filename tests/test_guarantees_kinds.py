"""The guarantees of [7], [8], [9] and [10], on small CRAFTS and all their WEBS of few VERSIONS."""

import unittest
from collections import Counter

from paidbyheirs.crafts import new_slots
from paidbyheirs.errands import errand, flags_of, kinds_of, parts_taken
from paidbyheirs.errors import CanNot
from paidbyheirs.kinds import all_kinds, is_kind, made, taken, worth
from paidbyheirs.ledgers import cost, forced_by, ledger, look_now, paid, unforced
from paidbyheirs.let import best_kinds, let_kinds
from paidbyheirs.manners import again, cost_anew, cost_at_once, paid_anew
from paidbyheirs.webs import held, heirs, shapes_of
from tests.known import CRAFTS, diced_crafts
from tests.plain import powers
from tests.test_guarantees import some_webs

ALL = (*CRAFTS, *diced_crafts(40))


class OnAllWebs(unittest.TestCase):
    """Each check looks at one CRAFT and its WEBS."""

    def each(self, check):
        for craft in ALL:
            with self.subTest(craft=craft):
                check(craft, some_webs(craft))

    def test_if_more_is_shared_it_costs_at_most_as_much(self):
        self.each(self.check_shared)

    def check_shared(self, craft, webs):
        slots = new_slots(craft)
        chain = [slots[:many] for many in range(len(slots) + 1)]
        for web in webs:
            costs = [cost_anew(craft, web, some) for some in chain]
            self.assertEqual(costs, sorted(costs))
            self.assertEqual(costs[0], cost(craft, web))
            self.assertLessEqual(costs[0], cost_at_once(craft, web))

    def test_a_look_at_what_was_forced_pays_what_again_tells(self):
        self.each(self.check_again)

    def check_again(self, craft, webs):
        """By further ROWS, one for each slot, that look at it alone."""
        somes = powers(new_slots(craft))[1:6]
        for web in webs[-12:]:
            shapes = shapes_of(craft, web)
            for version in range(len(web)):
                for slot in range(craft[0][shapes[version]]):
                    more = ((*craft[0], 0), (*craft[1], ((shapes[version],), ((0, slot),), 0, len(craft[0]), ())))
                    longer = (*web, (len(craft[1]), (version,)), (len(craft[1]), (version,)))
                    for some in ((), *somes):
                        pays = paid_anew(more, longer, some)
                        self.assertEqual(pays[-1], again(craft, web, some, version, slot))
                    self.assertEqual(paid_anew(more, longer, ())[-2], look_now(craft, web, version, slot))

    def test_errands(self):
        self.each(self.check_errands)

    def check_errands(self, craft, webs):
        for web in webs:
            undone, holds = unforced(craft, web), held(craft, web)
            waits = sorted({wait for slots in holds for wait in slots if wait is not None})
            for wait in waits:
                if wait in undone:
                    self.assertRaises(CanNot, errand, craft, web, wait)
                else:
                    self.check_errand(craft, web, holds, wait, errand(craft, web, wait))

    def check_errand(self, craft, web, holds, wait, way):
        self.assertGreaterEqual(len(way), 2)
        self.assertEqual(way[0], wait)
        for version, slot in way[:-1]:
            self.assertEqual(holds[version][slot], wait)
        for (elder, _), (heir, _) in zip(way, way[1:-1]):
            self.assertIn(elder, web[heir][1])
        heir, place = way[-1]
        self.assertIn((heir, place), heirs(web, way[-2][0]))
        reason = forced_by(craft, web, wait)
        self.assertEqual((heir, place), reason[::2][:2] if reason[1] == "look" else (reason[2][0], place))

    def test_flags(self):
        self.each(self.check_flags)

    def check_flags(self, craft, webs):
        for web in webs:
            done = {wait for did in ledger(craft, web) for wait in did}
            told = tuple(tuple(slot for slot, wait in enumerate(slots) if wait is None or wait in done)
                         for slots in held(craft, web))
            self.assertEqual(flags_of(craft, web), told)

    def test_parts(self):
        self.each(self.check_parts)

    def check_parts(self, craft, webs):
        """A slot is taken once at most; what is taken is what is given."""
        for web in webs:
            parts, kinds = parts_taken(craft, web), kinds_of(craft, web)
            for version in range(len(web)):
                given = [parts[heir][place] for heir, place in heirs(web, version) if parts[heir][place]]
                slots = [slot for part in given for slot in part]
                self.assertEqual(len(slots), len(set(slots)))
                self.assertEqual(tuple(sorted(given)), kinds[version][3])
                self.assertEqual(tuple(part for _, part in kinds[version][1]), parts[version])

    def test_kinds(self):
        self.each(self.check_kinds)

    def check_kinds(self, craft, webs):
        every, let = set(all_kinds(craft)), set(let_kinds(craft))
        for web in webs:
            kinds = kinds_of(craft, web)
            self.assertEqual([kind for kind in kinds if not is_kind(craft, kind)], [])
            self.assertLessEqual(set(kinds), every)
            self.assertLessEqual(set(kinds), let)
            self.assertEqual(sum(worth(craft, kind) for kind in kinds), cost(craft, web))
            takes = Counter(sort for kind in kinds for sort in taken(craft, kind))
            self.assertEqual(takes, Counter(sort for kind in kinds for sort in made(craft, kind)))
            # A deed may pay for others, so only all together it comes out even.
            self.assertEqual(len(kinds), len(paid(craft, web)))

    def test_best_kinds_stand_for_all_let_ones(self):
        self.each(self.check_best)

    def check_best(self, craft, webs):
        best = best_kinds(craft)
        told = {(kind[0], tuple(sorted(taken(craft, kind))), tuple(sorted(made(craft, kind)))): kind for kind in best}
        self.assertEqual(len(told), len(best))
        for kind in let_kinds(craft):
            like = told[(kind[0], tuple(sorted(taken(craft, kind))), tuple(sorted(made(craft, kind))))]
            self.assertLessEqual(like, kind)
            self.assertEqual(worth(craft, like), worth(craft, kind))


if __name__ == "__main__":
    unittest.main()
