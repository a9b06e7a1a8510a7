"""The guarantees of [4], [5] and [6], on small CRAFTS and all their WEBS of few VERSIONS."""

import unittest

from paidbyheirs.crafts import cut_craft, idle_rows, joined_craft, renamed, rows_done, shapes_made
from paidbyheirs.errors import CanNot, TooMany
from paidbyheirs.ledgers import cost, forced_by, ledger, look_now, paid, unforced
from paidbyheirs.webs import all_webs, beside, comes_from, cut_web, heirs, held, is_line, is_web, next_deeds, shapes_of
from paidbyheirs.webs import wanted
from tests.known import CRAFTS, diced_crafts

ALL = (*CRAFTS, *diced_crafts(40))
LONGEST = 4
MOST = 220


def some_webs(craft):
    """All WEBS of craft of few VERSIONS, of each length, until there are many."""
    webs = []
    for many in range(LONGEST + 1):
        try:
            longer = all_webs(craft, many)
        except TooMany:
            break
        if len(longer) > MOST:
            break
        webs.extend(longer)
    return webs


class OnAllWebs(unittest.TestCase):
    """Each check looks at one CRAFT and its WEBS."""

    def each(self, check):
        for craft in ALL:
            with self.subTest(craft=craft):
                check(craft, some_webs(craft))

    def test_rows_come_if_their_elders_do(self):
        self.each(self.check_rows)

    def check_rows(self, craft, webs):
        shapes, rows = shapes_made(craft), rows_done(craft)
        told = tuple(row for row, own in enumerate(craft[1]) if all(elder in shapes for elder in own[0]))
        self.assertEqual(rows, told)
        self.assertEqual(sorted(rows + idle_rows(craft)), list(range(len(craft[1]))))
        done = set()
        # With three SHAPES each ROW that comes does so in a WEB of four VERSIONS.
        try:
            done.update(row for web in all_webs(craft, 4) for row, _ in web)
        except TooMany:
            done.update(rows)
        self.assertEqual(tuple(sorted(done)), rows)
        self.assertEqual(shapes, tuple(sorted({craft[1][row][3] for row in rows})))

    def test_cut_craft_has_the_same_webs(self):
        self.each(self.check_cut)

    def check_cut(self, craft, webs):
        rows = rows_done(craft)
        if not rows:
            self.assertRaises(CanNot, cut_craft, craft)
            return
        small = cut_craft(craft)
        turned = [tuple((rows.index(row), elders) for row, elders in web) for web in webs]
        self.assertEqual(turned, some_webs(small))
        for web, other in zip(webs, turned):
            self.assertEqual((ledger(craft, web), paid(craft, web)), (ledger(small, other), paid(small, other)))

    def test_renamed_has_the_same_webs(self):
        self.each(self.check_renamed)

    def check_renamed(self, craft, webs):
        many, most = len(craft[0]), len(craft[1])
        shapes = tuple((shape + 1) % many for shape in range(many))
        rows = tuple((row + 2) % most for row in range(most))
        other = renamed(craft, shapes, rows)
        turned = [tuple((rows[row], elders) for row, elders in web) for web in webs]
        self.assertEqual(sorted(turned), sorted(some_webs(other)))
        for web, own in zip(webs, turned):
            self.assertEqual((ledger(craft, web), paid(craft, web)), (ledger(other, own), paid(other, own)))
            self.assertEqual(tuple(shapes[shape] for shape in shapes_of(craft, web)), shapes_of(other, own))
        back = [tuple(order.index(at) for at in range(len(order))) for order in (shapes, rows)]
        self.assertEqual(renamed(other, *back), craft)

    def test_each_slot_holds_what_its_version_comes_from(self):
        self.each(self.check_held)

    def check_held(self, craft, webs):
        for web in webs:
            for version, slots in enumerate(held(craft, web)):
                self.assertEqual(len(slots), craft[0][shapes_of(craft, web)[version]])
                for wait in slots:
                    if wait is not None:
                        self.assertIn(wait[0], comes_from(web, version))
                        self.assertEqual(craft[1][web[wait[0]][0]][4][wait[1]][0], "new")

    def test_what_is_ahead_in_a_web_is_a_web(self):
        self.each(self.check_ahead)

    def check_ahead(self, craft, webs):
        for web in webs:
            for many in range(len(web) + 1):
                self.assertTrue(is_web(craft, web[:many]))
            for many in range(len(web)):
                self.assertIn(web[many], next_deeds(craft, web[:many]))
                self.assertEqual(held(craft, web[:many]), held(craft, web)[:many])
                self.assertEqual(ledger(craft, web[:many]), ledger(craft, web)[:many])

    def test_what_is_cut_and_set_beside_is_a_web(self):
        self.each(self.check_cut_webs)

    def check_cut_webs(self, craft, webs):
        for web in webs:
            for version in range(len(web)):
                part = cut_web(web, (version,))
                self.assertTrue(is_web(craft, part))
                self.assertEqual(comes_from(part, len(part) - 1), tuple(range(len(part))))
                self.assertEqual(len(part), len(comes_from(web, version)))
            self.assertEqual(cut_web(web, tuple(range(len(web)))), web)
            two = beside((web, web))
            self.assertTrue(is_web(craft, two))
            self.assertEqual(paid(craft, two), paid(craft, web) * 2)
            self.assertIs(is_line(two), is_line(web))

    def test_heirs_are_elders_turned_round(self):
        self.each(self.check_heirs)

    def check_heirs(self, craft, webs):
        for web in webs:
            told = sorted((version, *pair) for version in range(len(web)) for pair in heirs(web, version))
            asked = sorted((elder, heir, place) for heir, (_, elders) in enumerate(web)
                           for place, elder in enumerate(elders))
            self.assertEqual(told, asked)

    def test_ledgers(self):
        self.each(self.check_ledgers)

    def check_ledgers(self, craft, webs):
        for web in webs:
            order = [wait for did in ledger(craft, web) for wait in did]
            self.assertEqual(len(order), len(set(order)))
            for at, wait in enumerate(order):
                self.assertLessEqual(set(wanted(craft, web, wait)), set(order[:at]))
            waits = {wait for slots in held(craft, web) for wait in slots if wait is not None}
            self.assertEqual(tuple(sorted(waits - set(order))), unforced(craft, web))
            self.assertEqual(cost(craft, web), sum(paid(craft, web)))
            for deed, did in enumerate(ledger(craft, web)):
                for wait in did:
                    self.check_reason(craft, web, deed, did, wait)

    def check_reason(self, craft, web, deed, did, wait):
        """A WAIT is done by a look that holds it, or by one that wants it and is done behind it."""
        reason = forced_by(craft, web, wait)
        self.assertEqual(reason[0], deed)
        if reason[1] == "look":
            row, elders = web[deed]
            self.assertIn(reason[2:], craft[1][row][1])
            self.assertEqual(held(craft, web)[elders[reason[2]]][reason[3]], wait)
        else:
            self.assertEqual(reason[1], "want")
            self.assertIn(wait, wanted(craft, web, reason[2]))
            self.assertGreater(did.index(reason[2]), did.index(wait))

    def test_a_look_pays_what_a_deed_that_looks_does(self):
        self.each(self.check_looks)

    def check_looks(self, craft, webs):
        """A further SHAPE and a ROW for each slot that looks at it alone."""
        for web in webs:
            shapes = shapes_of(craft, web)
            for version in range(len(web)):
                for slot in range(craft[0][shapes[version]]):
                    row = ((shapes[version],), ((0, slot),), 0, len(craft[0]), ())
                    more = ((*craft[0], 0), (*craft[1], row))
                    longer = (*web, (len(craft[1]), (version,)))
                    self.assertEqual(look_now(craft, web, version, slot), paid(more, longer)[-1])

    def test_deeds_next_to_one_another_may_be_exchanged(self):
        self.each(self.check_exchange)

    def check_exchange(self, craft, webs):
        for web in webs:
            for at in range(1, len(web)):
                if at - 1 not in web[at][1]:
                    self.check_one_exchange(craft, web, at)

    def check_one_exchange(self, craft, web, at):
        """The deeds at - 1 and at change their places."""
        turned = {at: at - 1, at - 1: at}
        order = [turned.get(version, version) for version in range(len(web))]
        other = tuple((web[version][0], tuple(turned.get(elder, elder) for elder in web[version][1]))
                      for version in order)
        self.assertTrue(is_web(craft, other))
        pays, others = paid(craft, web), paid(craft, other)
        self.assertEqual(pays[at - 1] + pays[at], others[at - 1] + others[at])
        self.assertEqual(pays[:at - 1] + pays[at + 1:], others[:at - 1] + others[at + 1:])
        done = {wait for did in ledger(craft, web)[:at + 1] for wait in did}
        again = {(turned.get(version, version), slot) for did in ledger(craft, other)[:at + 1] for version, slot in did}
        self.assertEqual(done, again)

    def test_beside_in_joined_crafts(self):
        for craft in CRAFTS:
            for other in CRAFTS:
                both = joined_craft(craft, other)
                mine, theirs = some_webs(craft)[-1], some_webs(other)[-1]
                web = beside((mine, tuple((len(craft[1]) + row, elders) for row, elders in theirs)))
                self.assertEqual(paid(both, web), paid(craft, mine) + paid(other, theirs))


class Enough(unittest.TestCase):

    def test_there_are_webs_to_look_at(self):
        self.assertGreater(sum(len(some_webs(craft)) for craft in ALL), 2000)


if __name__ == "__main__":
    unittest.main()
