"""[17]: work done anew at each look: RINGS by which it gets dearer for ever, NUMBERED pairs where it does not."""

import unittest
from fractions import Fraction

from paidbyheirs.anew import anew_mean, dear_slots, endless_ring, is_endless_ring, most_again, numbered_craft
from paidbyheirs.crafts import is_craft, new_slots, with_cost
from paidbyheirs.errors import CanNot, TooMany, Unfit
from paidbyheirs.kinds import all_kinds
from paidbyheirs.ledgers import paid
from paidbyheirs.manners import again, cost_anew, paid_anew
from paidbyheirs.payments import mean
from paidbyheirs.webs import is_web
from tests.known import AMPLE, BEYOND, BOTH, CARRY, CHAIN, COPIES, CRAFTS, DOUBLE, GROWS, HALF, HIDES, JUNK, KEPT, LATE, LONE
from tests.known import MELDS, NEVER, PAIRS, RELAY, SIXTY, SPROUT, STAIRS, STRAY, TURNS, TWINS, begins, deep, diced_crafts
from tests.known import diced_webs, variants
from tests.plain import powers
from tests.plain_anew import coming, plain_dear, plain_is_ring, plain_leads, plain_numbered, plain_numbered_craft
from tests.test_guarantees import some_webs

NOUGHT = (0, 1)
PUTS = ((0, ()), (1, (0,)), (1, (1,)), (2, (2,)))
OTHERS = (True, False, None, "", (), 0, 1, 2, 3, -1, (0, 0), (1, 0), (2, 0), (1, 1), (True, 0), (1, False), [1, 0],
          (0, ()), (1, (0,)))
ALL = (*CRAFTS, GROWS, HIDES, TURNS, *diced_crafts(80))


def somes_of(craft):
    """Some SOME of this CRAFT, () and all new slots among them."""
    slots = new_slots(craft)
    told = powers(slots)
    return told if len(told) <= 8 else [(), slots, *told[1:4], *told[-5:-1]]


def cases(crafts):
    return [(craft, some) for craft in crafts for some in somes_of(craft)]


def is_endless(craft, some):
    try:
        endless_ring(craft, some)
    except CanNot:
        return False
    return True


class Dear(unittest.TestCase):

    def test_by_hand(self):
        web = ((0, ()), (1, (0,)), (2, (1,)))
        for craft, some, said in ((KEPT, ((0, 1),), ((1,), (1,), (1,))), (KEPT, ((1, 0),), ((), (), ())),
                                  (KEPT, ((0, 1), (1, 0)), ((1,), (0, 1), (1,))), (KEPT, (), ((), (), ())),
                                  (DOUBLE, ((0, 0), (1, 1)), ((0,), (1,), ())), (DOUBLE, ((1, 0), (1, 1)),
                                                                                 ((), (), ())),
                                  (CHAIN, ((1, 0),), ((), (0,), ())), (CARRY, ((0, 0),), ((0,), (0,), ())),
                                  (CARRY, (), ((), (), ()))):
            self.assertEqual(dear_slots(craft, web, some), said)
        self.assertEqual(dear_slots(CHAIN, (), ((1, 0),)), ())
        # An anew WAIT that costs nothing is dear by what it wants alone.
        self.assertEqual(dear_slots(with_cost(CHAIN, 1, 0, 0), PUTS, ((1, 0),)), ((), (), (), ()))

    def test_as_again_tells(self):
        for craft in ALL:
            for web in diced_webs(craft, 3, 7):
                for some in somes_of(craft):
                    self.assertEqual(dear_slots(craft, web, some), tuple(plain_dear(craft, web, some, version)
                                                                         for version in range(len(web))))

    def test_long_webs(self):
        web = ((0, ()), *[(1, (at,)) for at in range(59)])
        self.assertEqual(dear_slots(DOUBLE, web, new_slots(DOUBLE)), ((0, 1),) * 60)


class Rings(unittest.TestCase):

    def test_whether_there_is_one(self):
        for craft, some, said in (
                (CHAIN, ((1, 0),), True), (CHAIN, (), False), (with_cost(CHAIN, 1, 0, 0), ((1, 0),), False),
                (LONE, ((1, 0),), False),
                (LATE, ((1, 0),), True), (TWINS, new_slots(TWINS), False), (KEPT, ((0, 1), (1, 0)), True),
                (KEPT, ((1, 0),), False),
                (KEPT, ((0, 1),), False), (DOUBLE, new_slots(DOUBLE), True), (DOUBLE, ((0, 0), (0, 1), (1, 0)), False),
                (DOUBLE, ((1, 0), (1, 1)), False), (DOUBLE, ((0, 0), (1, 0), (1, 1)), True),
                (with_cost(DOUBLE, 1, 0, 1), ((1, 0),), True),
                (DOUBLE, ((0, 0), (1, 0)), False), (GROWS, new_slots(GROWS), True), (GROWS, ((1, 1),), False),
                (HIDES, new_slots(HIDES), False), (TURNS, new_slots(TURNS), True), (TURNS, ((0, 0), (1, 0), (3, 0)),
                                                                                    True),
                (TURNS, ((0, 0), (3, 0)), False), (TURNS, ((1, 0), (3, 0)), False), (STRAY, (), False),
                (NEVER, (), False),
                (SPROUT, ((1, 0),), False), (CARRY, ((0, 0),), False), (SIXTY, new_slots(SIXTY), False)):
            self.assertIs(is_endless(craft, some), said, msg=(craft, some))

    def test_both_slots_grow_together(self):
        ring = endless_ring(DOUBLE, new_slots(DOUBLE))
        web, steps, place = ring
        self.assertEqual(dear_slots(DOUBLE, web, new_slots(DOUBLE))[steps[place][0]], (0, 1))
        self.assertIs(is_endless_ring(DOUBLE, new_slots(DOUBLE), ring), True)

    def test_its_own_judge(self):
        many = 0
        for craft, some in cases((*ALL, *diced_crafts(260)[80:])):
            if is_endless(craft, some):
                many += 1
                ring = endless_ring(craft, some)
                self.assertIs(is_endless_ring(craft, some, ring), True, msg=(craft, some))
                self.assertTrue(plain_is_ring(craft, some, ring))
                self.assertTrue(is_web(craft, ring[0]))
        self.assertGreater(many, 60)

    def test_rings_by_hand(self):
        both = new_slots(KEPT)
        # By what it costs itself, by another pair that is dear.
        self.assertIs(is_endless_ring(CHAIN, ((1, 0),), (PUTS, ((1, 0), (2, 0)), 1)), True)
        self.assertIs(is_endless_ring(with_cost(CHAIN, 1, 0, 0), ((1, 0),), (PUTS, ((1, 0), (2, 0)), 1)), False)
        self.assertIs(is_endless_ring(KEPT, both, (PUTS, ((1, 0), (2, 0)), 1)), True)
        self.assertIs(is_endless_ring(KEPT, both, (PUTS, ((0, 1), (1, 1)), 1)), False)
        # What is kept alone does not grow.
        handed = ((0, ()), (1, (0,)), (1, (1,)), (2, (2,)))
        self.assertEqual(dear_slots(CARRY, handed, ((0, 0),))[:3], ((0,),) * 3)
        for steps, place in ((((0, 0), (1, 0), (2, 0)), 1), (((0, 0), (1, 0), (2, 0)), 2), (((1, 0), (2, 0)), 1)):
            self.assertIs(is_endless_ring(CARRY, ((0, 0),), (handed, steps, place)), False)
        # VERSION 0 has not the dear slots of the others, nor has what a look made.
        self.assertIs(is_endless_ring(CHAIN, ((1, 0),), (PUTS, ((0, 0), (1, 0), (2, 0)), 1)), False)
        self.assertIs(is_endless_ring(CHAIN, ((1, 0),), (PUTS, ((0, 0), (1, 0), (2, 0)), 2)), False)
        # The last deed looks at the slot of another pair, or there is a deed behind the look.
        self.assertIs(is_endless_ring(CHAIN, ((1, 0),), (PUTS[:3], ((1, 0), (2, 0)), 1)), False)
        self.assertIs(is_endless_ring(CHAIN, ((1, 0),), ((*PUTS[:3], (2, (1,))), ((1, 0), (2, 0)), 1)), False)
        self.assertIs(is_endless_ring(CHAIN, ((1, 0),), ((*PUTS, (0, ())), ((1, 0), (2, 0)), 1)), False)
        self.assertIs(is_endless_ring(CHAIN, ((1, 0),), ((*PUTS, (2, (2,))), ((1, 0), (2, 0)), 1)), True)
        longer = (*PUTS[:3], (1, (2,)), (1, (3,)), (2, (4,)))
        for place in (1, 2, 3):
            self.assertIs(is_endless_ring(CHAIN, ((1, 0),), (longer, ((1, 0), (2, 0), (3, 0), (4, 0)), place)), True)
        for place in (0, 4, -1, True, None, (1,)):
            self.assertIs(is_endless_ring(CHAIN, ((1, 0),), (longer, ((1, 0), (2, 0), (3, 0), (4, 0)), place)), False)
        # A pair is left out: none goes on from it.
        self.assertIs(is_endless_ring(CHAIN, ((1, 0),), (longer, ((1, 0), (2, 0), (4, 0)), 1)), False)

    def test_shared_behind_the_place_alone(self):
        some = ((0, 0), (1, 0), (3, 0))
        web = ((0, ()), (1, (0,)), (2, (1,)), (3, (2, 0)), (1, (3,)), (2, (4,)), (4, (5,)), (5, (6,)))
        round_it = ((1, 0), (2, 0), (3, 0), (4, 0))
        self.assertIs(is_endless_ring(TURNS, some, (web, (*round_it, (5, 0), (6, 0)), 3)), True)
        # Two turns are one as well.
        twice = (*web[:5], (2, (4,)), (3, (5, 0)), (1, (6,)), (2, (7,)), (5, (8,)))
        steps = (*round_it, (5, 0), (6, 0), (7, 0), (8, 0))
        self.assertEqual([is_endless_ring(TURNS, some, (twice, steps, place)) for place in range(1, 8)],
                         [False, False, True, False, False, True, False])
        # VERSION 6 is of the SHAPE of VERSION 2, by a shared WAIT.
        self.assertIs(is_endless_ring(TURNS, some, (web, ((2, 0), (3, 0), (4, 0), (5, 0), (6, 0)), 4)), False)
        self.assertIs(is_endless_ring(TURNS, some, (web, ((2, 0), (3, 0), (4, 0), (5, 0), (6, 0)), 3)), True)

    def test_no_shared_one_up_to_the_place(self):
        # What is dear at VERSION 1 is so no longer at VERSION 2, whose WAIT is done once.
        craft = ((1, 1), (((), (), 0, 0, (("none",),)), ((0,), (), 0, 1, (("new", 1, ((0, 0),)),)),
                          ((1,), (), 0, 0, (("new", 1, ((0, 0),)),)), ((0,), ((0, 0),), 0, 0, (("none",),))))
        web = ((0, ()), (1, (0,)), (2, (1,)), (1, (2,)), (2, (3,)), (3, (4,)))
        steps = ((0, 0), (1, 0), (2, 0), (3, 0), (4, 0))
        self.assertEqual(dear_slots(craft, web, ((1, 0),)), ((), (0,), (), (0,), (), ()))
        for own, place in ((steps, 2), (steps, 4), (steps[1:], 2), (steps[1:4], 2), (steps[2:], 2)):
            self.assertIs(is_endless_ring(craft, ((1, 0),), (web, own, place)), False)
            self.assertIs(plain_is_ring(craft, ((1, 0),), (web, own, place)), False)
        self.assertIs(is_endless(craft, ((1, 0),)), False)
        self.assertIs(is_endless_ring(craft, new_slots(craft), (web, steps[1:], 2)), True)
        self.assertIs(is_endless_ring(craft, new_slots(craft), (web, steps[2:], 2)), True)
        self.assertIs(is_endless_ring(craft, new_slots(craft), (web, steps, 2)), False)

    def test_the_same_slot_of_one_version_by_both_places(self):
        craft = ((1,), (((), (), 0, 0, (("new", 1, ()),)), ((0, 0), (), 0, 0, (("new", 0, ((0, 0), (1, 0))),)),
                        ((0,), ((0, 0),), 0, 0, (("none",),))))
        some = new_slots(craft)
        self.assertIs(is_endless_ring(craft, some, (((0, ()), (1, (0, 0)), (2, (1,))), ((0, 0), (1, 0)), 1)), True)
        empty = ((0, ()), (2, (0,)), (1, (0, 1)), (2, (2,)))
        self.assertIs(is_endless_ring(craft, some, (empty, ((0, 0), (2, 0)), 1)), False)
        self.assertIs(is_endless_ring(craft, ((1, 0),), (((0, ()), (1, (0, 0)), (2, (1,))), ((0, 0), (1, 0)), 1)),
                      False)

    def test_a_slot_that_goes_on_two_ways(self):
        """What stands in slot 0 is handed on in it, which leads nowhere dearer, or in slot 1, from where it grows."""
        craft = ((2,), (((0,), (), 2, 0, (("kept", 0, 0), ("none",))),
                        ((), (), 1, 0, (("new", 2, ()), ("new", 1, ()))),
                        ((0,), ((0, 0),), 2, 0, (("new", 2, ((0, 1),)), ("kept", 0, 0)))))
        some = ((1, 0), (1, 1), (2, 0))
        ring = endless_ring(craft, some)
        self.assertIs(is_endless_ring(craft, some, ring), True)
        self.assertTrue(plain_is_ring(craft, some, ring))
        web = ((1, ()), (2, (0,)), (2, (1,)), (2, (2,)), (2, (3,)))
        self.assertIs(is_endless_ring(craft, some, (web, ((0, 1), (1, 0), (2, 1), (3, 0)), 2)), True)
        self.assertIs(is_endless_ring(craft, some, (web, ((0, 1), (1, 0), (2, 1), (3, 0)), 1)), False)
        self.assertIs(is_endless(craft, ((1, 0), (1, 1))), False)

    def test_bent_rings(self):
        both = new_slots(KEPT)
        for craft, some in ((CHAIN, ((1, 0),)), (KEPT, both), (GROWS, new_slots(GROWS)), (TURNS, new_slots(TURNS)),
                            (DOUBLE, ((0, 0), (1, 0), (1, 1)))):
            ring = endless_ring(craft, some)
            many = 0
            for thing in (*JUNK, *variants(ring, OTHERS), deep(12), (PUTS, ((1, 0), (2, 0)), 1)):
                said = plain_is_ring(craft, some, thing)
                many += said
                self.assertIs(is_endless_ring(craft, some, thing), said, msg=thing)
            self.assertGreater(many, 1)

    def test_pumped_it_gets_dearer_for_ever(self):
        """The turn done again and again, and then a look: what that pays grows with each turn."""
        for craft, some in cases(ALL):
            if is_endless(craft, some):
                web, steps, place = endless_ring(craft, some)
                tells = []
                for turns in range(4):
                    longer, version = pumped(web, steps, place, turns)
                    tells.append((again(craft, longer, some, version, steps[place][1]),
                                  paid_anew(craft, longer, some)[-1]))
                self.assertEqual([own for own, _ in tells], sorted({own for own, _ in tells}), msg=(craft, some))
                # Deeds of the first turn may look at what is shared, and leave less to the last one.
                self.assertEqual([pays for _, pays in tells[1:]], sorted({pays for _, pays in tells[1:]}),
                                 msg=(craft, some))


def pumped(web, steps, place, turns):
    """web with the deeds of the pairs 1 to place done so many times more, then those behind them; the last of the turns."""
    longer = list(web[:-1])
    behind = dict(zip([version for version, _ in steps[1:]], range(len(steps))))
    now = steps[place][0]
    for _ in range(turns):
        for version, _ in steps[1:place + 1]:
            ahead = steps[behind[version]][0]
            row, elders = web[version]
            longer.append((row, tuple(now if elder == ahead else elder for elder in elders)))
            now = len(longer) - 1
    last = now
    for version, _ in steps[place + 1:]:
        ahead = steps[behind[version]][0]
        row, elders = web[version]
        longer.append((row, tuple(now if elder == ahead else elder for elder in elders)))
        now = len(longer) - 1
    row, elders = web[-1]
    return (*longer, (row, tuple(now if elder == steps[-1][0] else elder for elder in elders))), last


class Numbered(unittest.TestCase):

    def test_by_hand(self):
        self.assertEqual(numbered_craft(MELDS, ()), (MELDS, (0, 1)))
        numbered, rows = numbered_craft(MELDS, ((0, 0),))
        self.assertEqual(rows, (0, 1, 1, 1, 1))
        self.assertEqual(numbered[0], (1, 1))
        looks = ((0, 0), (1, 0))
        self.assertEqual(numbered[1], (((), (), 0, 1, (("new", 0, ()),)), ((0, 0), looks, 0, 0, (("none",),)),
                                       ((0, 1), looks, 4, 0, (("none",),)), ((1, 0), looks, 4, 0, (("none",),)),
                                       ((1, 1), looks, 8, 0, (("none",),))))

    def test_slots_that_lead_to_no_look(self):
        # LONE, HIDES: dear, and dearer and dearer, but never asked for.
        self.assertEqual(numbered_craft(LONE, ((1, 0),)),
                         (((1,), (LONE[1][0], ((0,), (), 0, 0, (("new", 0, ((0, 0),)),)))), (0, 1)))
        numbered, _ = numbered_craft(HIDES, new_slots(HIDES))
        self.assertEqual(sorted({row[2] for row in numbered[1]}), [0, 1, 2])
        self.assertEqual(len(numbered[0]), 2)
        # HALF: slot 1 is never looked at, so what is dear there does not tell VERSIONS apart.
        self.assertEqual(numbered_craft(HALF, ((0, 1),))[0],
                         ((2, 0), (((), (), 0, 0, (("new", 1, ()), ("new", 0, ()))), HALF[1][1])))
        self.assertEqual(numbered_craft(HALF, ((0, 0),))[0][1][1], ((0,), ((0, 0),), 1, 1, ()))

    def test_idle_rows_and_shapes_are_left_out(self):
        numbered, rows = numbered_craft(LATE, ())
        self.assertEqual((numbered, rows), (((1,), CHAIN[1]), (0, 1, 2)))
        numbered, rows = numbered_craft(STAIRS, new_slots(STAIRS))
        self.assertEqual(rows, (1, 2, 3, 5, 5, 5, 5))
        self.assertEqual((most_again(STAIRS, new_slots(STAIRS)), most_again(STAIRS, ())), (6, 0))
        self.assertEqual(numbered_craft(STRAY, ()), (((0,), (STRAY[1][0],)), (0,)))

    def test_a_shared_one_that_wants_what_is_anew(self):
        numbered, _ = numbered_craft(TURNS, ((0, 0), (1, 0)))
        told = [row[4][0] for row in numbered[1]]
        self.assertIn(("new", 9, ((0, 0),)), told)
        self.assertIn(("new", 4, ((0, 0), (1, 0))), told)

    def test_as_plainly_told(self):
        for craft, some in cases((*ALL, *diced_crafts(200)[80:])):
            if not coming(craft) or is_endless(craft, some):
                self.assertRaises(CanNot, numbered_craft, craft, some)
                continue
            pairs, _ = plain_numbered(craft, some, 200)
            if pairs is None or len(pairs) > 60:
                self.assertRaises(TooMany, numbered_craft, craft, some)
                continue
            told = numbered_craft(craft, some)
            self.assertEqual(told, plain_numbered_craft(craft, some))
            self.assertTrue(is_craft(told[0]))
            looked = [numbers[slot] for row in coming(craft) for place, slot in craft[1][row][1] for shape,
                      numbers in pairs
                      if shape == craft[1][row][0][place]]
            self.assertEqual(most_again(craft, some), max(looked, default=0))

    def test_endless_exactly_if_ever_more_pairs_come(self):
        many = [0, 0]
        for craft, some in cases(ALL):
            pairs, _ = plain_numbered(craft, some, 90)
            said = is_endless(craft, some)
            many[said] += 1
            if said:
                self.assertIsNone(pairs, msg=(craft, some))
            else:
                self.assertTrue(pairs is not None or plain_numbered(craft, some, 4000)[0] is not None,
                                msg=(craft, some))
        self.assertGreater(min(many), 40)

    def test_each_web_costs_what_it_costs_anew(self):
        for craft, some in cases(ALL):
            if not coming(craft) or is_endless(craft, some):
                continue
            try:
                numbered, rows = numbered_craft(craft, some)
            except TooMany:
                continue
            found = {(row, elders): at for at, (row, elders) in enumerate(zip(rows, [own[0] for own in numbered[1]]))}
            for web in [*some_webs(craft)[-40:], *diced_webs(craft, 2, 12)]:
                same, shapes = [], []
                for row, elders in web:
                    same.append((found[row, tuple(shapes[elder] for elder in elders)], elders))
                    shapes.append(numbered[1][same[-1][0]][3])
                self.assertEqual(paid(numbered, tuple(same)), paid_anew(craft, web, some))

    def test_sixty_pairs_and_one_more(self):
        numbered, rows = numbered_craft(SIXTY, new_slots(SIXTY))
        self.assertEqual(len(numbered[0]), 60)
        self.assertEqual(len(numbered_craft(begins(60), new_slots(begins(60)))[0][0]), 60)
        for call in (numbered_craft, most_again, anew_mean):
            self.assertRaises(TooMany, call, begins(61), new_slots(begins(61)))
        self.assertEqual((most_again(begins(60), new_slots(begins(60))), anew_mean(begins(60), new_slots(begins(60)))),
                         (59, (59, 1)))
        # All but one are anew: as many less.
        self.assertEqual(len(numbered_craft(begins(61), new_slots(begins(61))[1:])[0][0]), 60)

    def test_too_many_kinds(self):
        numbered, _ = numbered_craft(SIXTY, new_slots(SIXTY))
        self.assertRaises(TooMany, all_kinds, numbered)
        self.assertRaises(TooMany, anew_mean, SIXTY, new_slots(SIXTY))
        self.assertEqual(most_again(SIXTY, new_slots(SIXTY)), 8)
        # Too many KINDS of its own do not matter, but for the mean.
        self.assertRaises(TooMany, anew_mean, BEYOND, ())
        self.assertEqual((most_again(BEYOND, ()), numbered_craft(BEYOND, ())),
                         (0, (BEYOND, tuple(range(len(BEYOND[1]))))))


class Means(unittest.TestCase):

    def test_by_hand(self):
        for craft, some, said in (
                (TWINS, (), (2, 1)), (TWINS, ((0, 0),), (3, 1)), (MELDS, ((0, 0),), (8, 1)), (MELDS, (), (8, 3)),
                (LONE, ((1, 0),), NOUGHT),
                (HIDES, new_slots(HIDES), (2, 1)), (NEVER, (), NOUGHT), (STRAY, (), (5, 1)),
                (SPROUT, ((1, 0),), (5, 1)),
                (RELAY, ((0, 0),), (12, 1)), (HALF, ((0, 0),), (1, 1)), (HALF, ((0, 1),), (1, 2))):
            self.assertEqual(anew_mean(craft, some), said, msg=(craft, some))
        self.assertEqual([most_again(craft, some) for craft, some in ((NEVER, ()), (STRAY, ()), (RELAY, ((0, 0),)),
                                                                      (HALF, ((0, 1),)))],
                         [0, 0, 8, 0])

    def test_no_web_costs_more_and_none_less_is_enough(self):
        for craft, some in cases(ALL):
            if is_endless(craft, some):
                self.assertRaises(CanNot, anew_mean, craft, some)
                continue
            try:
                own = anew_mean(craft, some)
            except TooMany:
                continue
            self.assertTrue(coming(craft) or own == NOUGHT)
            for web in some_webs(craft):
                self.assertLessEqual(cost_anew(craft, web, some), Fraction(*own) * len(web))
            if coming(craft):
                self.assertEqual(own, mean(numbered_craft(craft, some)[0]))
            if some == ():
                self.assertEqual(own, mean(craft))

    def test_as_again_tells(self):
        for craft, some in cases(ALL):
            if is_endless(craft, some):
                self.assertRaises(CanNot, most_again, craft, some)
                continue
            try:
                most = most_again(craft, some)
            except TooMany:
                continue
            for web in [*some_webs(craft)[-25:], *diced_webs(craft, 1, 9)]:
                for row, elders in web:
                    for place, slot in craft[1][row][1]:
                        self.assertLessEqual(again(craft, web, some, elders[place], slot), most)

    def test_slots_that_lead_to_a_look(self):
        self.assertEqual(plain_leads(RELAY), {(0, 0), (1, 0), (2, 0)})
        self.assertEqual((plain_leads(LONE), plain_leads(LATE)), (set(), {(0, 0)}))


class Wrong(unittest.TestCase):

    CALLS = (endless_ring, numbered_craft, most_again, anew_mean, lambda craft, some: is_endless_ring(craft, some,
                                                                                                      None))

    def test_crafts_and_webs(self):
        for craft in (*JUNK, (BEYOND[0], (*BEYOND[1], 5))):
            for call in self.CALLS:
                self.assertRaises(Unfit, call, craft, ())
            self.assertRaises(Unfit, dear_slots, craft, (), ())
        for web in (5, None, ((1, ()),), ((0, ()), (1, (1,))), ((0, (), ()),), (("", ()),)):
            self.assertRaises(Unfit, dear_slots, CHAIN, web, ())

    def test_endless_ahead_of_too_many(self):
        """More than 60 NUMBERED pairs come where it is endless: CanNot() is told all the same."""
        for call in (numbered_craft, most_again, anew_mean):
            self.assertRaises(CanNot, call, CHAIN, ((1, 0),))
            self.assertRaises(CanNot, call, AMPLE, new_slots(AMPLE))
        self.assertRaises(CanNot, numbered_craft, NEVER, ())
        self.assertRaises(CanNot, endless_ring, NEVER, ())
        self.assertRaises(CanNot, endless_ring, COPIES, ())

    def test_at_the_bounds_of_crafts(self):
        for some in powers(new_slots(AMPLE))[::7]:
            said = is_endless(AMPLE, some)
            if said:
                self.assertIs(is_endless_ring(AMPLE, some, endless_ring(AMPLE, some)), True)
            else:
                self.assertIs(is_endless_ring(AMPLE, some, (PUTS, ((1, 0), (2, 0)), 1)), False)
                try:
                    self.assertLessEqual(Fraction(*anew_mean(AMPLE, ())), Fraction(*anew_mean(AMPLE, some)))
                except TooMany:
                    pass
        swaps = ((2, 2), (((), (), 1, 0, (("new", 1, ()), ("new", 3, ()))),
                          ((), (), 1, 0, (("new", 10, ()), ("new", 30, ()))),
                          ((0,), (), 1, 1, (("new", 5, ((0, 0),)), ("kept", 0, 1))),
                          ((0,), (), 1, 1, (("kept", 0, 0), ("new", 9, BOTH[1:2]))),
                          ((1,), ((0, 0),), 1, 1, (("kept", 0, 1), ("new", 7, ()))),
                          ((1,), (), 1, 1, (("kept", 0, 1), ("kept", 0, 0)))))
        self.assertEqual((anew_mean(swaps, new_slots(swaps)), len(numbered_craft(swaps, new_slots(swaps))[0][0])),
                         ((40, 1), 27))
        self.assertIs(is_endless(PAIRS, new_slots(PAIRS)), is_endless(PAIRS, ((0, 0), (1, 0), (3, 0), (3, 1))))


if __name__ == "__main__":
    unittest.main()
