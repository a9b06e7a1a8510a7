"""COLUMNS that balance: MIXES of them that gain, or RATES by which none does. What is told in [3] and [13]."""

from math import lcm

from paidbyheirs.crafts import fit_craft
from paidbyheirs.cuts import added, cut, divided, is_fraction, multiplied, order, taken_off
from paidbyheirs.errors import CanNot, Unfit
from paidbyheirs.forms import as_tuples, is_from_zero, is_tuple_of
from paidbyheirs.kinds import worth_of
from paidbyheirs.let import best_deals, deals_let, sorts_in
from paidbyheirs.tableaus import Tableau

NOUGHT = (0, 1)
# From PAYMENTS down to a FRACTION.
PAYMENTS_LEVELS = 2


def is_mix(columns, thing):
    """Whether thing is a MIX of these COLUMNS."""
    if not is_tuple_of(thing, len(columns)) or not all([is_from_zero(number) for number in thing]):
        return False
    rows = [row for _, row in columns]
    sums = [sum([number * row[place] for number, row in zip(thing, rows)]) for place in range(len(rows[0]))]
    return any([number > 0 for number in thing]) and all([total == 0 for total in sums])


def weighed(parts, mix):
    """These FRACTIONS, each times its number in mix, added up."""
    total = NOUGHT
    for part, number in zip(parts, mix):
        if number:
            total = added(total, multiplied(part, (number, 1)))
    return total


def mix_gain(columns, mix):
    """The gain of this MIX, a FRACTION."""
    return weighed([gain for gain, _ in columns], mix)


def is_gaining(columns, thing):
    """Whether thing is a MIX that gains."""
    return is_mix(columns, thing) and order(mix_gain(columns, thing), NOUGHT) > 0


def is_rates(columns, thing):
    """Whether thing are RATES of these COLUMNS."""
    if not is_tuple_of(thing, len(columns[0][1])) or not all([is_fraction(rate) for rate in thing]):
        return False
    return all([order(gain, weighed(thing, row)) <= 0 for gain, row in columns])


def whole(fractions):
    """The pair of these FRACTIONS as whole numbers, each so many times, and this number."""
    times = 1
    for _, many in fractions:
        times = lcm(times, many)
    return [number * (times // many) for number, many in fractions], times


def tableau_of(columns, weights):
    """The TABLEAU of these COLUMNS with these weights, and how often their gains are in its own."""
    gains, times = whole([gain for gain, _ in columns])
    heavy, _ = whole(weights)
    return Tableau([row for _, row in columns], heavy, gains), times


def mix_or_rates(columns):
    """The pair of a MIX that gains, or None if there is none, and of RATES, or None."""
    tableau, times = tableau_of(columns, [NOUGHT] * len(columns))
    mix = tableau.gaining_mix()
    if mix is None:
        return None, tuple([cut(rate, tableau.scale * times) for rate in tableau.rates()])
    return tuple(mix), None


def gaining(columns):
    """A MIX that gains; CanNot() if there is none."""
    mix, _ = mix_or_rates(columns)
    if mix is None:
        raise CanNot()
    return mix


def rates(columns):
    """RATES of these COLUMNS; CanNot() if there are none."""
    _, told = mix_or_rates(columns)
    if told is None:
        raise CanNot()
    return told


def gains_without_weight(columns, weights):
    """Whether a MIX of weight 0 gains: it has no COLUMN with a weight."""
    light = [column for column, weight in zip(columns, weights) if weight[0] == 0]
    if not light:
        return False
    mix, _ = mix_or_rates(light)
    return mix is not None


def mix_of_best_share(columns, weights):
    """A MIX with the greatest share, no MIX of weight 0 gaining; None if no MIX has a weight above 0."""
    tableau, _ = tableau_of(columns, weights)
    mix = tableau.best_mix()
    return None if mix is None else tuple(mix)


def best_share(columns, weights):
    """The greatest share of a MIX; None if a MIX of weight 0 gains, else CanNot() if no MIX has a weight above 0."""
    if gains_without_weight(columns, weights):
        return None
    mix = mix_of_best_share(columns, weights)
    if mix is None:
        raise CanNot()
    return divided(mix_gain(columns, mix), weighed(weights, mix))


def best_mix(columns, weights):
    """A MIX with the greatest share; CanNot() if there is no greatest one."""
    if gains_without_weight(columns, weights):
        raise CanNot()
    mix = mix_of_best_share(columns, weights)
    if mix is None:
        raise CanNot()
    return mix


def is_best_mix(columns, weights, thing):
    """Whether thing is a MIX with the greatest share: if each weight paid just this, no MIX would gain."""
    if not is_mix(columns, thing) or weighed(weights, thing) == NOUGHT:
        return False
    share = divided(mix_gain(columns, thing), weighed(weights, thing))
    left = [(taken_off(gain, multiplied(share, weight)), row) for (gain, row), weight in zip(columns, weights)]
    mix, _ = mix_or_rates(left)
    return mix is None


def is_payments(craft, thing):
    """Whether thing is PAYMENTS for this CRAFT."""
    return is_tuple_of(thing, len(craft[1])) and all([is_fraction(payment) for payment in thing])


def fit_payments(craft, payments):
    """payments as tuples throughout; Unfit() if they are none for this CRAFT."""
    payments = as_tuples(payments, PAYMENTS_LEVELS)
    if not is_payments(craft, payments):
        raise Unfit()
    return payments


def column_of(craft, sorts, payments, deal):
    """The COLUMN of this DEAL: its worth less what its ROW pays, and how often it takes each SORT less makes it."""
    kind, _, takes, _, makes = deal
    row = tuple([takes.count(sort) - makes.count(sort) for sort in sorts])
    return (taken_off((worth_of(craft, kind), 1), payments[kind[0]]), row)


def columns_of(craft, deals, payments):
    """The COLUMNS of the best of these DEALS, which are all that are let, () if there are none."""
    sorts = sorts_in(deals)
    return tuple([column_of(craft, sorts, payments, deal) for deal in best_deals(deals)])


def craft_columns(craft, payments):
    """The COLUMNS of best_kinds, with a place for each let SORT; TooMany(), Unfit() for payments, then CanNot()."""
    craft = fit_craft(craft)
    deals = deals_let(craft)
    columns = columns_of(craft, deals, fit_payments(craft, payments))
    if not columns:
        raise CanNot()
    return columns
