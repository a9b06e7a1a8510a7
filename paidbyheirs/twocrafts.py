"""Two CRAFTS with the same deeds: how much dearer WEBS are by one than by the other. What is told in [3] and [19]."""

from paidbyheirs.crafts import CRAFT_LEVELS, fit_craft, is_row
from paidbyheirs.cuts import cut
from paidbyheirs.errands import all_kinds_of, all_parts
from paidbyheirs.errors import CanNot, NoRow, Unfit
from paidbyheirs.forms import as_tuples, ascending, exchanged, is_below
from paidbyheirs.ledgers import account
from paidbyheirs.lines import NOUGHT, gains_without_weight, mix_of_best_share, mix_or_rates
from paidbyheirs.payments import ONE
from paidbyheirs.twins import NONE, best_twins, bundle_of_twins, dearer_bundle, fit_mates, is_mated, is_twin_bundle
from paidbyheirs.twins import twin_columns, twin_costs, twin_deals, twins_found, worths_of
from paidbyheirs.webs import fit_web


def are_mates(craft, other):
    """Whether they have as many SHAPES and ROWS, and elders and shape of each ROW are alike."""
    craft, other = fit_craft(craft), fit_craft(other)
    return is_mated(craft, other)


def all_twins(craft, other):
    """The list, ascending, of all TWINS."""
    craft, other = fit_mates(craft, other)
    return twins_found(craft, other)


def let_twins(craft, other):
    """The list, ascending, of the TWINS that are let."""
    craft, other = fit_mates(craft, other)
    return [deal[0] for deal in twin_deals(craft, other)]


def parts_in(craft, web):
    """The tuple with, for each VERSION of a WEB of this CRAFT, the tuple of the PARTS that it takes."""
    _, holds, _, reasons = account(craft, web)
    return all_parts(craft, web, holds, reasons)


def twins_of(craft, other, web):
    """The tuple with, for each VERSION, its TWIN, a place's two PARTS together."""
    craft, other = fit_mates(craft, other)
    web = fit_web(craft, web)
    given = [[] for _ in web]
    for (_, elders), parts, likes in zip(web, parts_in(craft, web), parts_in(other, web)):
        for elder, part, like in zip(elders, parts, likes):
            if (part, like) != NONE:
                given[elder].append((part, like))
    kinds, mates = all_kinds_of(craft, web), all_kinds_of(other, web)
    return tuple([(kind, like, ascending(pairs)) for kind, like, pairs in zip(kinds, mates, given)])


def light_and_heavy(craft, other, deals):
    """The best of these DEALS, their COLUMNS by what they cost by craft, their weights by what they do by other."""
    best = best_twins(deals)
    worths = [worths_of(craft, other, deal[0]) for deal in best]
    return best, twin_columns(best, [(worth, 1) for worth, _ in worths]), [(like, 1) for _, like in worths]


def most_bundle(craft, other, deals):
    """A TWIN BUNDLE that costs by craft most times what it does by other; None if none costs something by other.

    CanNot() if one costs something by craft alone.
    """
    best, columns, weights = light_and_heavy(craft, other, deals)
    if gains_without_weight(columns, weights):
        raise CanNot()
    if not best:
        return None
    mix = mix_of_best_share(columns, weights)
    return None if mix is None else bundle_of_twins(best, mix)


def share_of_costs(craft, other, bundle):
    """What this TWIN BUNDLE costs by craft, divided by what it costs by other."""
    costs, likes = twin_costs(craft, other, bundle)
    return cut(costs, likes)


def ratio(craft, other):
    """The least FRACTION r, from 0, with cost by craft at most r times cost by other; CanNot() if there is none."""
    craft, other = fit_mates(craft, other)
    bundle = most_bundle(craft, other, twin_deals(craft, other))
    return NOUGHT if bundle is None else share_of_costs(craft, other, bundle)


def ratio_bundle(craft, other):
    """A TWIN BUNDLE that costs something by other, and ratio times that by craft; CanNot() if there is none."""
    craft, other = fit_mates(craft, other)
    bundle = most_bundle(craft, other, twin_deals(craft, other))
    if bundle is None:
        raise CanNot()
    return bundle


def is_ratio_bundle(craft, other, thing):
    """Whether thing is a TWIN BUNDLE that costs something by other, and ratio times that by craft."""
    craft, other = fit_mates(craft, other)
    deals = twin_deals(craft, other)
    if not is_twin_bundle(craft, other, deals, thing) or twin_costs(craft, other, thing)[1] == 0:
        return False
    return dearer_bundle(craft, other, deals, share_of_costs(craft, other, thing)) is None


def apart_bundle(craft, other):
    """A TWIN BUNDLE that costs something by craft and nothing by other; CanNot() if there is none."""
    craft, other = fit_mates(craft, other)
    best, columns, weights = light_and_heavy(craft, other, twin_deals(craft, other))
    free = [at for at, weight in enumerate(weights) if weight == NOUGHT]
    mix = None
    if free:
        mix, _ = mix_or_rates([columns[at] for at in free])
    if mix is None:
        raise CanNot()
    return bundle_of_twins([best[at] for at in free], mix)


def is_apart_bundle(craft, other, thing):
    """Whether thing is a TWIN BUNDLE that costs something by craft and nothing by other."""
    craft, other = fit_mates(craft, other)
    if not is_twin_bundle(craft, other, twin_deals(craft, other), thing):
        return False
    costs, likes = twin_costs(craft, other, thing)
    return costs > 0 and likes == 0


def is_never_dearer(craft, other):
    """Whether cost by craft is at most cost by other FOR ALL WEBS."""
    craft, other = fit_mates(craft, other)
    return dearer_bundle(craft, other, twin_deals(craft, other), ONE) is None


def row_exchanged(craft, row, like):
    """The CRAFT with like in the place of this ROW; NoRow(row), then Unfit() if this can not be."""
    sizes, rows = fit_craft(craft)
    if not is_below(row, len(rows)):
        raise NoRow(row)
    like = as_tuples(like, CRAFT_LEVELS - 2)
    if not is_row(sizes, like) or like[0] != rows[row][0] or like[3] != rows[row][3]:
        raise Unfit()
    return (sizes, exchanged(rows, row, like))
