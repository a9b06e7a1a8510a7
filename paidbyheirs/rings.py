"""RINGS: what histories without two heirs can tell, and what they can not. What is told in [3] and [16].

A LEG, here, is a KIND of LINES with the triples between which it goes: the
tuple (kind, begin, end), begin None for one without an elder.
"""

from paidbyheirs.bundles import is_counted
from paidbyheirs.crafts import fit_craft
from paidbyheirs.cuts import cut, order
from paidbyheirs.errors import CanNot, Unfit
from paidbyheirs.forms import as_tuples, ascending, is_ascending
from paidbyheirs.kinds import worth_of
from paidbyheirs.let import SORT_LEVELS, deals_let, sorts_in
from paidbyheirs.lines import NOUGHT, fit_payments, mix_of_best_share, whole
from paidbyheirs.payments import ONE, mean_told, share_of


def asked_alone(craft):
    """craft as tuples and its let DEALS: Unfit(), TooMany(), then Unfit() if a ROW has two elders."""
    craft = fit_craft(craft)
    deals = deals_let(craft)
    if any([len(row[0]) == 2 for row in craft[1]]):
        raise Unfit()
    return craft, deals


def leg_of(deal):
    """The LEG of this DEAL, which makes one SORT at most."""
    kind, stands, _, stand, makes = deal
    begin = None
    if stands:
        begin = (*stands[0], kind[1][0][1])
    return (kind, begin, makes[0] if makes else (*stand, ()))


def reached(starts, steps):
    """The dict with True for each of starts, and for all to which one of the steps, pairs, leads from such a one."""
    marks = {start: True for start in starts}
    many = -1
    while many < len(marks):
        many = len(marks)
        for one, other in steps:
            if one in marks:
                marks[other] = True
    return marks


def all_legs(deals):
    """The list, ascending, of the LEGS of all KINDS of LINES, these DEALS being those of all let KINDS.

    As each VERSION has one heir at most, this takes the one PART that there
    is. So a LINE goes from LEG to LEG, and ends where no PART is pending.
    """
    legs = [leg_of(deal) for deal in deals if len(deal[4]) <= 1]
    steps = [(begin, end) for _, begin, end in legs]
    come = reached([None], steps)
    ended = reached([end for _, _, end in legs if end[2] == ()], [(end, begin) for begin, end in steps])
    return [leg for leg in legs if leg[1] in come and leg[2] in ended]


def leg_columns(craft, legs):
    """The COLUMNS of these LEGS, with a place for each triple at which one ends, then of the ends of LINES.

    At the last of these triples a LINE may end, wherever no PART is pending.
    """
    points = ascending([end for _, _, end in legs])
    columns = []
    for kind, begin, end in legs:
        columns.append(((worth_of(craft, kind), 1), tuple([int(own == end) - int(own == begin) for own in points])))
    lasts = [own for own in points if own[2] == ()]
    columns.extend([(NOUGHT, tuple([-int(own == last) for own in points])) for last in lasts])
    return columns


def best_legs(craft, legs):
    """A LINE BUNDLE of these LEGS, one at least, that is worth most for each deed."""
    columns = leg_columns(craft, legs)
    mix = mix_of_best_share(columns, [ONE] * len(legs) + [NOUGHT] * (len(columns) - len(legs)))
    return tuple([(leg[0], number) for leg, number in zip(legs, mix) if number])


def line_mean_told(craft, legs):
    """line_mean(craft), these LEGS being all that there are."""
    if not legs:
        return NOUGHT
    return share_of(craft, best_legs(craft, legs))


def line_mean(craft):
    """The least FRACTION such that no LINE costs more for each deed; (0, 1) if there is no KIND of LINES."""
    craft, deals = asked_alone(craft)
    return line_mean_told(craft, all_legs(deals))


def line_bundle(craft):
    """A LINE BUNDLE whose worth, divided by its deeds, is line_mean; CanNot() if there is no KIND of LINES."""
    craft, deals = asked_alone(craft)
    legs = all_legs(deals)
    if not legs:
        raise CanNot()
    return best_legs(craft, legs)


def is_bundle_of_legs(craft, legs, thing):
    """Whether thing is a LINE BUNDLE, legs being all that there are."""
    if not isinstance(thing, tuple) or thing == () or not all([is_counted(craft, pair) for pair in thing]):
        return False
    told = {leg[0]: leg for leg in legs}
    kinds = [kind for kind, _ in thing]
    if not is_ascending(kinds) or not all([kind in told for kind in kinds]):
        return False
    left = {}
    for kind, number in thing:
        _, begin, end = told[kind]
        left[end] = left.get(end, 0) + number
        if begin is not None:
            left[begin] = left.get(begin, 0) - number
    return all([left[own] == 0 or left[own] > 0 and own[2] == () for own in left])


def is_line_bundle(craft, thing):
    """Whether thing is a LINE BUNDLE with line_mean for each deed."""
    craft, deals = asked_alone(craft)
    legs = all_legs(deals)
    return is_bundle_of_legs(craft, legs, thing) and share_of(craft, thing) == line_mean_told(craft, legs)


def web_beats_line(craft):
    """Whether the mean is above line_mean."""
    craft, deals = asked_alone(craft)
    return order(mean_told(craft, deals), line_mean_told(craft, all_legs(deals))) > 0


def gains_of(craft, deals, payments):
    """The list of the pairs of a DEAL and its worth less what its ROW pays, so many times, and this number."""
    numbers, times = whole(payments)
    return [(deal, worth_of(craft, deal[0]) * times - numbers[deal[0][0]]) for deal in deals], times


def grown(told, best):
    """The dict with, for each SORT, the most that a TREE of it brings whose branches bring what best tells of theirs.

    told are pairs of a DEAL and what it brings itself.
    """
    more = {}
    for deal, gain in told:
        _, _, takes, _, makes = deal
        if takes and all([sort in best for sort in makes]):
            brings_now = gain + sum([best[sort] for sort in makes])
            if takes[0] not in more or brings_now > more[takes[0]]:
                more[takes[0]] = brings_now
    return more


def best_trees(told, sorts):
    """The dict with, for each of the let SORTS, the most that a TREE of it brings; None if there is no greatest.

    If no TREE as high as there are SORTS, or less high, brings as much as a
    higher one, a SORT comes again in this one, with a gain that can be had
    again and again: so there is no greatest, nor of what asks for this SORT.
    """
    best = {}
    for _ in range(len(sorts)):
        best = grown(told, best)
    more = grown(told, best)
    asks = [(made, deal[2][0]) for deal, _ in told if deal[2] for made in deal[4]]
    endless = reached([sort for sort in sorts if more[sort] > best[sort]], asks)
    return {sort: None if sort in endless else best[sort] for sort in sorts}


def brings(craft, payments, sort):
    """The greatest FRACTION that a TREE of sort brings; None if there is no greatest; CanNot() if sort is not let."""
    craft, deals = asked_alone(craft)
    told, times = gains_of(craft, deals, fit_payments(craft, payments))
    best = best_trees(told, sorts_in(deals))
    sort = as_tuples(sort, SORT_LEVELS)
    if sort not in best:
        raise CanNot()
    return None if best[sort] is None else cut(best[sort], times)


def gains_again(deal, gain, best):
    """Whether this DEAL, which brings gain, brings more than nothing with the best TREES of what it makes."""
    tops = [best[sort] for sort in deal[4]]
    return any([top is None for top in tops]) or gain + sum(tops) > 0


def one_again(craft, payments):
    """The least ROW with an elder that gains, again and again, from ONE VERSION; None if there is none."""
    craft, deals = asked_alone(craft)
    told, _ = gains_of(craft, deals, fit_payments(craft, payments))
    best = best_trees(told, sorts_in(deals))
    for deal, gain in told:
        if deal[1] and not deal[2] and gains_again(deal, gain, best):
            return deal[0][0]
    return None
