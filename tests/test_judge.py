"""[20]: CLAIMS, whether they stand, PAPERS against them and REASONS for them."""

import unittest
from fractions import Fraction

from paidbyheirs.anew import endless_ring, is_endless_ring
from paidbyheirs.bundles import bundle_of, is_bundle, plan_for
from paidbyheirs.crafts import new_slots
from paidbyheirs.cuts import added, cut, taken_off
from paidbyheirs.errors import CanNot, TooMany, Unfit
from paidbyheirs.judge import first_fallen, is_claim, is_paper_against, is_reason_for, is_so, paper_against, reason_for
from paidbyheirs.kinds import all_kinds
from paidbyheirs.let import is_let, let_kinds
from paidbyheirs.payments import breaking, even, is_breaking, is_enough, is_prices, mean, prices
from paidbyheirs.twocrafts import apart_bundle, let_twins, ratio, ratio_bundle
from tests.known import AMPLE, BEYOND, CHAIN, CRAFTS, GROWS, HIDES, JUNK, KEPT, LONE, MELDS, NEVER, STRAY
from tests.known import TURNS, TWINS, as_lists, as_mixed, counting, deep, diced_crafts, diced_mates, variants
from tests.plain import plain_is_bundle, plain_is_craft, plain_is_kind, plain_struck, powers
from tests.plain_twins import plain_is_twin_bundle, plain_twin_costs

NOUGHT, ONE = (0, 1), (1, 1)
UNEVEN = ((2, 0), ((((), (), 0, 0, (("new", 2, ()), ("new", 4, ()))),) + TWINS[1][1:]))
MAKE = (0, (), (0, 1), ((0,), (1,)))
LOST = (0, (), (0, 1), ((0, 1),))
RING = (((0, ()), (1, (0,)), (1, (1,)), (2, (2,))), ((1, 0), (2, 0)), 1)
OTHERS = (True, False, None, "", "let", 0, 1, -1, (), (0,), (0, 1), (1, 1), (2, 4), (-1, 2), (True, 1), [0, 1],
          ((0, 0),))
STANDS = (("enough", CHAIN, (NOUGHT, ONE, NOUGHT)), ("enough", NEVER, ((-5, 1),)), ("mean", TWINS, (2, 1)),
          ("mean", NEVER, (-1, 1)),
          ("mean", MELDS, (8, 3)), ("ratio", TWINS, UNEVEN, (3, 2)), ("ratio", TWINS, UNEVEN, (7, 1)),
          ("ratio", LONE, LONE, NOUGHT),
          ("let", TWINS, MAKE), ("let", LONE, (0, (), (0,), ())), ("endless", CHAIN, ((1, 0),)),
          ("endless", KEPT, ((0, 1), (1, 0))))
FALLS = (("enough", CHAIN, (NOUGHT, (1, 2), NOUGHT)), ("enough", STRAY, ((4, 1), (9, 1))), ("mean", TWINS, (3, 2)),
         ("mean", STRAY, (-1, 1)),
         ("ratio", TWINS, UNEVEN, (4, 3)), ("ratio", counting(LONE), LONE, (10 ** 6, 1)), ("let", TWINS, LOST),
         ("let", NEVER, all_kinds(NEVER)[0]),
         ("endless", CHAIN, ()), ("endless", KEPT, ((0, 1),)), ("endless", NEVER, ()))


def told(call, *arguments):
    """What call returns, or the kind of error that it raises."""
    try:
        return call(*arguments)
    except (CanNot, TooMany, Unfit) as error:
        return type(error)


def plain_is_fraction(thing):
    if type(thing) is not tuple or len(thing) != 2 or not all(type(part) is int for part in thing) or thing[1] < 1:
        return False
    return (Fraction(*thing).numerator, Fraction(*thing).denominator) == thing


def claims_of(craft):
    """CLAIMS about this CRAFT, those that stand just so and those that fall just so among them."""
    own, little = mean(craft), (1, 10 ** 6)
    claims = [("mean", craft, part) for part in (own, added(own, ONE), taken_off(own, little))]
    claims.extend(("enough", craft, even(craft, part)) for part in (own, taken_off(own, little)))
    claims.append(("enough", craft, tuple(cut(7 * row % 4, 1 + row % 2) for row in range(len(craft[1])))))
    claims.extend(("let", craft, kind) for kind in all_kinds(craft)[::5])
    claims.extend(("endless", craft, some) for some in powers(new_slots(craft))[-3:])
    return claims


def ratio_claims():
    for craft, other in diced_mates(50):
        if told(let_twins, craft, other) is not TooMany:
            own = told(ratio, craft, other)
            parts = [(10 ** 6, 1)] if own is CanNot else [own, added(own, ONE),
                                                          *([cut(own[0], own[1] + 1)] if own != NOUGHT else [])]
            for part in parts:
                yield ("ratio", craft, other, part)


class IsClaim(unittest.TestCase):

    def test_those_that_are(self):
        for claim in (*STANDS, *FALLS, ("enough", BEYOND, even(BEYOND, ONE)), ("mean", BEYOND, (-7, 3)),
                      ("let", BEYOND, (0, (), (), ())),
                      ("endless", AMPLE, new_slots(AMPLE)), ("ratio", BEYOND, counting(BEYOND), NOUGHT)):
            self.assertIs(is_claim(claim), True, msg=claim)
            self.assertIs(is_claim(list(claim)), False)
            self.assertIs(is_claim(as_lists(claim)), False)
            for at in range(1, len(claim)):
                self.assertIs(is_claim((*claim[:at], as_lists(claim[at]), *claim[at + 1:])), False)

    def test_those_that_are_not(self):
        for thing in (*JUNK, deep(12), ("enough",), ("enough", CHAIN), ("enough", CHAIN, (ONE,) * 2),
                      ("enough", CHAIN, (ONE,) * 4), ("Mean", CHAIN, ONE),
                      ("enough", CHAIN, (ONE, ONE, (2, 2))), ("enough", CHAIN, ONE), ("mean", CHAIN, (ONE,) * 3),
                      ("mean", CHAIN, (2, 4)),
                      ("mean", CHAIN, 1), ("mean", CHAIN, ONE, ONE), ("mean", (1,), ONE), ("mean", CHAIN, (True, 1)),
                      ("ratio", TWINS, UNEVEN),
                      ("ratio", TWINS, UNEVEN, (-1, 2)), ("ratio", TWINS, CHAIN, ONE), ("ratio", CHAIN, LONE, ONE),
                      ("ratio", TWINS, UNEVEN, (2, 2)),
                      ("ratio", TWINS, UNEVEN, ONE, ONE), ("let", TWINS, (0, (), (1,), ())), ("let", CHAIN, MAKE),
                      ("let", TWINS, list(MAKE)),
                      ("endless", CHAIN, ((0, 0),)), ("endless", CHAIN, ((1, 0), (1, 0))),
                      ("endless", KEPT, ((1, 0), (0, 1))),
                      ("endless", KEPT, [(0, 1)]), ("endless", KEPT, ((0, True),)), ("endless", CHAIN, (1, 0)),
                      ("endless", CHAIN, None),
                      ("dear", CHAIN, ONE), (True, CHAIN, ONE), (None, CHAIN, ONE), (("mean",), CHAIN, ONE), "mean",
                      ("", CHAIN, ONE)):
            self.assertIs(is_claim(thing), False, msg=thing)
            for call in (is_so, paper_against, lambda claim: is_paper_against(claim, None), reason_for,
                         lambda claim: is_reason_for(claim, None),
                         lambda claim: first_fallen((STANDS[0], claim))):
                # As an argument it may be one: lists are tuples there.
                if not is_claim(as_tuples(thing)):
                    self.assertRaises(Unfit, call, thing)

    def test_bent_claims(self):
        for claim in (("mean", LONE, (1, 2)), ("enough", STRAY, (ONE, (5, 1))), ("let", LONE, (0, (), (0,), ())),
                      ("endless", LONE, ((1, 0),)),
                      ("ratio", STRAY, STRAY, ONE)):
            for at in [0, *range(2, len(claim))]:
                for part in (*JUNK, *variants(claim[at], OTHERS)):
                    thing = (*claim[:at], part, *claim[at + 1:])
                    self.assertIs(is_claim(thing), plain_is_claim(thing), msg=thing)


def as_tuples(value):
    return tuple(as_tuples(part) for part in value) if isinstance(value, (list, tuple)) else value


def plain_is_claim(thing):
    """Whether thing is a CLAIM, its CRAFTS being ones, by words of the table."""
    word, craft, last = thing[0], thing[1], thing[-1]
    if word == "ratio" and len(thing) == 4:
        if not plain_is_craft(thing[2]) or not plain_is_fraction(last) or last[0] < 0:
            return False
        alike = [[(row[0], row[3]) for row in own[1]] for own in thing[1:3]]
        return len(thing[2][0]) == len(craft[0]) and alike[0] == alike[1]
    if len(thing) != 3:
        return False
    if word == "enough":
        return type(last) is tuple and len(last) == len(craft[1]) and all(plain_is_fraction(part) for part in last)
    if word == "mean":
        return plain_is_fraction(last)
    if word == "let":
        return plain_is_kind(craft, last)
    return word == "endless" and repr(last) in [repr(some) for some in powers(new_slots(craft))]


class Judge(unittest.TestCase):

    def test_by_hand(self):
        self.assertEqual([is_so(claim) for claim in STANDS], [True] * len(STANDS))
        self.assertEqual([is_so(claim) for claim in FALLS], [False] * len(FALLS))
        for some, said in ((new_slots(GROWS), True), (new_slots(GROWS)[1:], False)):
            self.assertIs(is_so(("endless", GROWS, some)), said)
        self.assertIs(is_so(("endless", HIDES, new_slots(HIDES))), False)
        self.assertIs(is_so(("endless", TURNS, new_slots(TURNS))), True)

    def test_as_the_points_tell(self):
        for craft in (*CRAFTS, *diced_crafts(25)):
            for claim in claims_of(craft):
                word, _, last = claim
                said = {"enough": lambda: is_enough(craft, last), "mean": lambda: is_enough(craft, even(craft, last)),
                        "let": lambda: is_let(craft, last), "endless": lambda: told(endless_ring, craft,
                                                                                    last) is not CanNot}[word]()
                self.assertIs(is_so(claim), said)
                self.assertIs(is_so(as_lists(claim)), said)
                self.assertIs(is_so(as_mixed(claim)), said)

    def test_papers_and_reasons(self):
        many = [0, 0]
        for craft in (*CRAFTS, *diced_crafts(25)):
            for claim in claims_of(craft):
                said = is_so(claim)
                many[said] += 1
                self.check_papers(claim, said)
                self.check_reasons(claim, said)
        self.assertGreater(min(many), 100)

    def check_papers(self, claim, said):
        """There is a PAPER exactly if it falls, where there are PAPERS."""
        if claim[0] in ("let", "endless"):
            self.assertRaises(CanNot, paper_against, claim)
            self.assertIs(is_paper_against(claim, told(reason_for, claim)), False)
            return
        paper = paper_against(claim)
        self.assertEqual(paper is None, said)
        self.assertIs(is_paper_against(claim, paper), not said)
        if not said and claim[0] != "ratio":
            self.assertIs(is_breaking(claim[1], claim[2] if claim[0] == "enough" else even(claim[1], claim[2]), paper),
                          True)

    def check_reasons(self, claim, said):
        """There is a REASON exactly if it stands, where there are REASONS."""
        if claim[0] == "ratio":
            self.assertRaises(CanNot, reason_for, claim)
            self.assertIs(is_reason_for(claim, told(paper_against, claim)), False)
            return
        reason = reason_for(claim)
        self.assertEqual(reason is not None, said)
        self.assertIs(is_reason_for(claim, reason), said)
        if said and claim[0] == "let":
            self.assertTrue(plain_is_bundle(claim[1], plain_struck(claim[1])[1], reason))
            self.assertIn(claim[2], [kind for kind, _ in reason])

    def test_ratios(self):
        many = [0, 0]
        for claim in ratio_claims():
            _, craft, other, part = claim
            own = told(ratio, craft, other)
            said = own is not CanNot and Fraction(*own) <= Fraction(*part)
            many[said] += 1
            self.assertIs(is_so(claim), said)
            self.check_papers(claim, said)
            self.check_reasons(claim, said)
            paper = paper_against(claim)
            if paper is not None:
                costs, likes = plain_twin_costs(craft, other, paper)
                self.assertGreater(costs, Fraction(*part) * likes)
                self.assertTrue(plain_is_twin_bundle(craft, other, let_twins(craft, other), paper))
        self.assertGreater(min(many), 20)

    def test_each_let_kind_has_a_bundle(self):
        for craft in (*CRAFTS, *diced_crafts(15)):
            for kind in let_kinds(craft):
                reason = reason_for(("let", craft, kind))
                self.assertIs(is_bundle(craft, reason), True)
                self.assertIs(is_reason_for(("let", craft, kind), reason), True)
        web = ((0, ()), (1, (0,)), (2, (0,)))
        trio = bundle_of(plan_for(TWINS, web))
        self.assertIs(is_reason_for(("let", TWINS, MAKE), trio), True)
        self.assertIs(is_reason_for(("let", TWINS, LOST), trio), False)
        self.assertIs(is_reason_for(("let", TWINS, (0, (), (), ())), trio), False)
        self.assertIs(is_reason_for(("let", TWINS, MAKE), trio[:1]), False)

    def test_bent_papers(self):
        for claim in (("mean", MELDS, (5, 2)), ("enough", CHAIN, (NOUGHT, (1, 2), NOUGHT)),
                      ("ratio", TWINS, UNEVEN, (4, 3))):
            paper = paper_against(claim)
            for thing in (*JUNK, *variants(paper, OTHERS), deep(12)):
                if claim[0] == "ratio":
                    said = plain_is_twin_bundle(TWINS, UNEVEN, let_twins(TWINS, UNEVEN), thing)
                    if said:
                        costs, likes = plain_twin_costs(TWINS, UNEVEN, thing)
                        said = 3 * costs > 4 * likes
                else:
                    said = is_breaking(claim[1], claim[2] if claim[0] == "enough" else even(claim[1], claim[2]), thing)
                self.assertIs(is_paper_against(claim, thing), said, msg=thing)
        many = ratio_bundle(TWINS, UNEVEN)
        self.assertEqual([is_paper_against(("ratio", TWINS, UNEVEN, part), many) for part in ((4, 3), (149, 100),
                                                                                              (3, 2), (2, 1))],
                         [True, True, False, False])
        apart = apart_bundle(counting(LONE), LONE)
        self.assertIs(is_paper_against(("ratio", counting(LONE), LONE, (10 ** 6, 1)), apart), True)

    def test_bent_reasons(self):
        for claim in (("mean", MELDS, (8, 3)), ("enough", CHAIN, (NOUGHT, ONE, NOUGHT)), ("let", TWINS, MAKE),
                      ("endless", CHAIN, ((1, 0),))):
            reason = reason_for(claim)
            for thing in (*JUNK, *variants(reason, OTHERS), deep(12)):
                if claim[0] == "let":
                    said = plain_is_bundle(TWINS, let_kinds(TWINS), thing) and MAKE in [kind for kind, _ in thing]
                elif claim[0] == "endless":
                    said = is_endless_ring(CHAIN, ((1, 0),), thing)
                else:
                    said = is_prices(claim[1], claim[2] if claim[0] == "enough" else even(claim[1], claim[2]), thing)
                self.assertIs(is_reason_for(claim, thing), said, msg=thing)
        self.assertIs(is_reason_for(("endless", CHAIN, ((1, 0),)), RING), True)
        self.assertIs(is_reason_for(("endless", CHAIN, ()), RING), False)
        for claim in STANDS:
            self.assertIs(is_reason_for(claim, None), False)
            self.assertIs(is_paper_against(claim, None), False)

    def test_of_one_claim_not_of_another(self):
        hurt = breaking(MELDS, even(MELDS, (5, 2)))
        self.assertEqual([is_paper_against(("mean", MELDS, part), hurt) for part in ((5, 2), (8, 3), (3, 1), (-1, 1))],
                         [True, False, False, True])
        show = prices(TWINS, even(TWINS, (2, 1)))
        self.assertEqual([is_reason_for(("mean", TWINS, part), show) for part in ((2, 1), (3, 1), (3, 2))],
                         [True, True, False])


class FirstFallen(unittest.TestCase):

    def test_by_hand(self):
        self.assertIsNone(first_fallen(()))
        self.assertIsNone(first_fallen(STANDS))
        self.assertEqual(first_fallen(FALLS), 0)
        for at in range(len(STANDS) + 1):
            self.assertEqual(first_fallen((*STANDS[:at], FALLS[at % len(FALLS)], *STANDS[at:], *FALLS)), at)
        self.assertEqual(first_fallen(as_lists((*STANDS[:3], *FALLS))), 3)

    def test_a_claim_that_is_none(self):
        for claims in ((None,), (*FALLS, ("mean", CHAIN, (2, 4))), (FALLS[0], STANDS), (("mean", BEYOND, ONE), None)):
            self.assertRaises(Unfit, first_fallen, claims)

    def test_too_many_up_to_the_one_told(self):
        much = ("mean", BEYOND, ONE)
        self.assertRaises(TooMany, first_fallen, (STANDS[0], much, FALLS[0]))
        self.assertEqual(first_fallen((STANDS[0], FALLS[0], much)), 1)
        self.assertRaises(TooMany, first_fallen, (much,))


class Errors(unittest.TestCase):

    def test_too_many(self):
        kind = (0, (), (), ())
        for claim in (("enough", BEYOND, even(BEYOND, ONE)), ("mean", BEYOND, ONE), ("ratio", BEYOND, counting(BEYOND),
                                                                                     ONE), ("ratio", AMPLE, AMPLE,
                                                                                            ONE)):
            for call in (is_so, paper_against, lambda own: is_paper_against(own, None)):
                self.assertRaises(TooMany, call, claim)
        for claim in (("enough", BEYOND, even(BEYOND, ONE)), ("mean", BEYOND, ONE), ("let", BEYOND, kind)):
            for call in (is_so, reason_for, lambda own: is_reason_for(own, None)):
                self.assertRaises(TooMany, call, claim)
        # CanNot(), or False at once, ahead of it.
        self.assertRaises(CanNot, paper_against, ("let", BEYOND, kind))
        self.assertIs(is_paper_against(("let", BEYOND, kind), None), False)
        self.assertRaises(CanNot, reason_for, ("ratio", AMPLE, AMPLE, ONE))
        self.assertIs(is_reason_for(("ratio", AMPLE, AMPLE, ONE), None), False)
        # RINGS ask for no KINDS.
        self.assertIs(is_so(("endless", BEYOND, ())), False)
        self.assertRaises(CanNot, paper_against, ("endless", BEYOND, ()))
        self.assertIsNone(reason_for(("endless", BEYOND, ())))

    def test_unfit_ahead_of_cannot(self):
        for claim in (("let", TWINS, None), ("endless", CHAIN, ((0, 0),)), ("ratio", TWINS, CHAIN, ONE)):
            for call in (paper_against, reason_for, is_so, lambda own: is_paper_against(own, None),
                         lambda own: is_reason_for(own, None)):
                self.assertRaises(Unfit, call, claim)


if __name__ == "__main__":
    unittest.main()
