"""One JUDGE of CLAIMS: whether they stand, PAPERS against them, REASONS for them. What is told in [20]."""

from paidbyheirs.anew import endless_ring, is_endless_ring
from paidbyheirs.bundles import bundle_with, is_bundle
from paidbyheirs.climbs import ring_found
from paidbyheirs.crafts import is_craft, new_slots
from paidbyheirs.cuts import is_fraction
from paidbyheirs.errors import CanNot, Unfit
from paidbyheirs.forms import as_tuples
from paidbyheirs.kinds import is_kind_of
from paidbyheirs.let import deals_let, is_let
from paidbyheirs.lines import is_payments
from paidbyheirs.payments import breaking, even, is_breaking, is_enough, is_prices, prices
from paidbyheirs.shared import is_lot
from paidbyheirs.twins import dearer_bundle, is_dearer_bundle, is_mated, twin_deals

# From a CLAIM down to the pairs that a WAIT of its CRAFT wants.
CLAIM_LEVELS = 8
PAID = ("enough", "mean")


def is_claim(thing):
    """Whether thing is a CLAIM."""
    if not isinstance(thing, tuple) or len(thing) < 3 or not is_craft(thing[1]):
        return False
    word, craft = thing[:2]
    if word == "ratio":
        return len(thing) == 4 and is_ratio_claim(craft, thing[2], thing[3])
    if len(thing) != 3:
        return False
    if word == "enough":
        return is_payments(craft, thing[2])
    if word == "mean":
        return is_fraction(thing[2])
    if word == "let":
        return is_kind_of(craft, thing[2])
    return word == "endless" and is_lot(new_slots(craft), thing[2])


def is_ratio_claim(craft, other, fraction):
    """Whether other is a mate of this CRAFT, and fraction a FRACTION from 0."""
    return is_craft(other) and is_mated(craft, other) and is_fraction(fraction) and fraction[0] >= 0


def fit_claim(claim):
    """claim as tuples throughout; Unfit() if it is none."""
    claim = as_tuples(claim, CLAIM_LEVELS)
    if not is_claim(claim):
        raise Unfit()
    return claim


def paid_in(claim):
    """The pair of the CRAFT and of the PAYMENTS that this CLAIM, of "enough" or "mean", says to be enough."""
    word, craft, told = claim
    return (craft, told if word == "enough" else even(craft, told))


def stands(claim):
    """Whether this CLAIM stands; TooMany()."""
    if claim[0] in PAID:
        craft, payments = paid_in(claim)
        return is_enough(craft, payments)
    if claim[0] == "ratio":
        return paper_of_ratio(claim) is None
    if claim[0] == "let":
        return is_let(claim[1], claim[2])
    return ring_found(claim[1], claim[2]) is not None


def paper_of_ratio(claim):
    """A PAPER against this CLAIM of "ratio"; None if it stands."""
    _, craft, other, fraction = claim
    return dearer_bundle(craft, other, twin_deals(craft, other), fraction)


def is_so(claim):
    """Whether this CLAIM stands."""
    return stands(fit_claim(claim))


def paper_against(claim):
    """A PAPER against this CLAIM; None if it stands; CanNot() where there are no PAPERS."""
    claim = fit_claim(claim)
    if claim[0] == "ratio":
        return paper_of_ratio(claim)
    if claim[0] not in PAID:
        raise CanNot()
    craft, payments = paid_in(claim)
    return None if is_enough(craft, payments) else breaking(craft, payments)


def is_paper_against(claim, thing):
    """Whether thing is a PAPER against this CLAIM."""
    claim = fit_claim(claim)
    if claim[0] in PAID:
        craft, payments = paid_in(claim)
        return is_breaking(craft, payments, thing)
    if claim[0] != "ratio":
        return False
    _, craft, other, fraction = claim
    return is_dearer_bundle(craft, other, twin_deals(craft, other), fraction, thing)


def reason_for(claim):
    """A REASON for this CLAIM; None if it does not stand; CanNot() where there are no REASONS."""
    claim = fit_claim(claim)
    if claim[0] == "ratio":
        raise CanNot()
    if not stands(claim):
        return None
    if claim[0] in PAID:
        craft, payments = paid_in(claim)
        return prices(craft, payments)
    _, craft, told = claim
    return bundle_with(deals_let(craft), told) if claim[0] == "let" else endless_ring(craft, told)


def is_reason_for(claim, thing):
    """Whether thing is a REASON for this CLAIM."""
    claim = fit_claim(claim)
    if claim[0] in PAID:
        craft, payments = paid_in(claim)
        return is_prices(craft, payments, thing)
    if claim[0] == "ratio":
        return False
    _, craft, told = claim
    if claim[0] == "endless":
        return is_endless_ring(craft, told, thing)
    return is_bundle(craft, thing) and told in [kind for kind, _ in thing]


def first_fallen(claims):
    """The number of the first of these CLAIMS that does not stand; None if all stand; Unfit() if one is none."""
    claims = [fit_claim(claim) for claim in claims]
    for number, claim in enumerate(claims):
        if not stands(claim):
            return number
    return None
