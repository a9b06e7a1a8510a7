"""PAYMENTS: whether they are enough FOR ALL WEBS, what shows it, what breaks them. What is told in [3] and [14]."""

from paidbyheirs.bundles import is_bundle_of, rows_told, total_deeds, total_worth
from paidbyheirs.crafts import fit_craft
from paidbyheirs.cuts import cut, is_fraction, order
from paidbyheirs.errors import CanNot
from paidbyheirs.forms import as_tuples, is_tuple_of
from paidbyheirs.let import best_deals, deals_let, is_sort, sorts_in
from paidbyheirs.lines import NOUGHT, columns_of, fit_payments, is_rates, mix_of_best_share, mix_or_rates, weighed

ONE = (1, 1)


def asked(craft, payments):
    """craft as tuples, its let DEALS, payments as tuples: Unfit() for craft, TooMany(), Unfit() for payments."""
    craft = fit_craft(craft)
    deals = deals_let(craft)
    return craft, deals, fit_payments(craft, payments)


def mix_or_prices(craft, deals, payments):
    """The pair of a MIX of the best DEALS that gains, or None, and of the numbers of PRICES, or None."""
    columns = columns_of(craft, deals, payments)
    if not columns:
        return None, ()
    return mix_or_rates(columns)


def bundle_from(deals, mix):
    """The BUNDLE of the KINDS of the best of these DEALS, each as often as mix tells."""
    return tuple([(deal[0], number) for deal, number in zip(best_deals(deals), mix) if number])


def is_enough(craft, payments):
    """Whether no WEB costs more than its deeds pay."""
    craft, deals, payments = asked(craft, payments)
    mix, _ = mix_or_prices(craft, deals, payments)
    return mix is None


def prices(craft, payments):
    """PRICES that show payments; CanNot() if there are none."""
    craft, deals, payments = asked(craft, payments)
    mix, told = mix_or_prices(craft, deals, payments)
    if mix is not None:
        raise CanNot()
    return tuple(list(zip(sorts_in(deals), told)))


def are_prices(sorts, thing):
    """Whether thing has a FRACTION for each of these SORTS, as PRICES have."""
    if not is_tuple_of(thing, len(sorts)) or not all([is_tuple_of(pair, 2) for pair in thing]):
        return False
    return all([is_sort(own, sort) and is_fraction(price) for sort, (own, price) in zip(sorts, thing)])


def is_prices(craft, payments, thing):
    """Whether thing is PRICES that show payments."""
    craft, deals, payments = asked(craft, payments)
    if not are_prices(sorts_in(deals), thing):
        return False
    columns = columns_of(craft, deals, payments)
    return not columns or is_rates(columns, tuple([price for _, price in thing]))


def breaking(craft, payments):
    """A BUNDLE that breaks payments; CanNot() if there is none."""
    craft, deals, payments = asked(craft, payments)
    mix, _ = mix_or_prices(craft, deals, payments)
    if mix is None:
        raise CanNot()
    return bundle_from(deals, mix)


def is_breaking(craft, payments, thing):
    """Whether thing is a BUNDLE whose worth is above what its deeds pay."""
    craft, deals, payments = asked(craft, payments)
    if not is_bundle_of(craft, deals, thing):
        return False
    return order((total_worth(craft, thing), 1), weighed(payments, rows_told(craft, thing))) > 0


def even(craft, fraction):
    """The PAYMENTS with this FRACTION for each ROW."""
    craft = fit_craft(craft)
    return (as_tuples(fraction, 1),) * len(craft[1])


def mean_mix(craft, deals):
    """A MIX of the best of these DEALS, one at least, that is worth most for each deed.

    Each deed weighs 1, so no MIX is without a weight; and as each let KIND
    stands in a whole PLAN there is a MIX.
    """
    columns = columns_of(craft, deals, (NOUGHT,) * len(craft[1]))
    return mix_of_best_share(columns, [ONE] * len(columns))


def share_of(craft, bundle):
    """What this BUNDLE is worth for each deed."""
    return cut(total_worth(craft, bundle), total_deeds(bundle))


def mean_told(craft, deals):
    """The least FRACTION that is enough for each deed, these DEALS being those of all let KINDS."""
    if not deals:
        return NOUGHT
    return share_of(craft, bundle_from(deals, mean_mix(craft, deals)))


def mean(craft):
    """The least FRACTION that is enough if each ROW pays it; (0, 1) if no KIND is let."""
    craft = fit_craft(craft)
    return mean_told(craft, deals_let(craft))


def mean_bundle(craft):
    """A BUNDLE whose worth, divided by its deeds, is the mean; CanNot() if no KIND is let."""
    craft = fit_craft(craft)
    deals = deals_let(craft)
    if not deals:
        raise CanNot()
    return bundle_from(deals, mean_mix(craft, deals))


def is_mean_bundle(craft, thing):
    """Whether thing is a BUNDLE whose worth, divided by its deeds, is the mean."""
    craft = fit_craft(craft)
    deals = deals_let(craft)
    return is_bundle_of(craft, deals, thing) and share_of(craft, thing) == mean_told(craft, deals)
