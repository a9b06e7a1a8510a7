"""KINDS that are let: those of which each stands in a whole PLAN. What is told in [3] and [10].

A DEAL, here, is what matters of a KIND: the tuple (kind, stands, takes,
stand, makes) of the KIND, the lists of the STANDS on which it stands and of
the SORTS that it takes, the STAND that it makes and the list of the SORTS
that it makes.
"""

from paidbyheirs.crafts import fit_craft
from paidbyheirs.errors import Unfit
from paidbyheirs.forms import as_tuples, ascending, is_number, is_numbers, is_tuple_of
from paidbyheirs.kinds import fit_kind, kinds_found, sorts_made, sorts_taken

# From a SORT down to its slots.
SORT_LEVELS = 2


def deal_of(craft, kind):
    """The DEAL of a KIND of this CRAFT."""
    number, takes, flags, _ = kind
    elders, _, _, shape, _ = craft[1][number]
    stands = [(elder, own) for elder, (own, _) in zip(elders, takes)]
    return (kind, stands, sorts_taken(craft, kind), (shape, flags), sorts_made(craft, kind))


def has_come(laps, deal):
    """Whether all on which it stands and all that it takes stand in laps."""
    _, stands, takes, _, _ = deal
    return all([own in laps for own in stands]) and all([sort in laps for sort in takes])


def laps_of(told):
    """The dict with the lap of whatever is given, told by pairs (asks, gives), lists.

    What is given in a lap is so by those pairs of which all that they ask was
    given in laps ahead.
    """
    laps = {}
    lap = 0
    many = -1
    while many < len(laps):
        many = len(laps)
        lap += 1
        ready = [gives for asks, gives in told if all([asked in laps for asked in asks])]
        for gives in ready:
            for own in gives:
                laps.setdefault(own, lap)
    return laps


def come_laps(deals):
    """The dict with the lap of each STAND and SORT that is come to by these DEALS."""
    return laps_of([([*stands, *takes], [stand, *makes]) for _, stands, takes, stand, makes in deals])


def end_laps(deals, come):
    """The dict with the lap of each SORT that is ended by these DEALS, by which what stands in come is come to."""
    return laps_of([(deal[4], deal[2]) for deal in deals if has_come(come, deal)])


def split_round(deals):
    """Two lists: the DEALS that are struck in a round, and those that are left."""
    come = come_laps(deals)
    ended = end_laps(deals, come)
    stays = [has_come(come, deal) and all([sort in ended for sort in deal[4]]) for deal in deals]
    return [deal for deal, stay in zip(deals, stays) if not stay], [deal for deal, stay in zip(deals, stays) if stay]


def all_rounds(deals):
    """The list of the lists of DEALS struck round by round, and the list of those that are left."""
    rounds = []
    lost, left = split_round(deals)
    while lost:
        rounds.append(lost)
        lost, left = split_round(left)
    return rounds, left


def all_deals(craft):
    """The list, ascending, of the DEALS of all KINDS of this CRAFT; TooMany()."""
    return [deal_of(craft, kind) for kind in kinds_found(craft)]


def deals_let(craft):
    """The list, ascending, of the DEALS of the let KINDS of this CRAFT; TooMany()."""
    _, left = all_rounds(all_deals(craft))
    return left


def sorts_in(deals):
    """The set of the SORTS that these DEALS make."""
    return ascending([sort for _, _, _, _, makes in deals for sort in makes])


def is_balanced(counted):
    """Whether these pairs of a DEAL and a number make of each SORT as many as they take."""
    left = {}
    for deal, number in counted:
        for sort in deal[2]:
            left[sort] = left.get(sort, 0) - number
        for sort in deal[4]:
            left[sort] = left.get(sort, 0) + number
    return all([left[sort] == 0 for sort in left])


def best_deals(deals):
    """The list, ascending, of the first of each lot of alike DEALS."""
    best = {}
    for deal in deals:
        kind, _, takes, _, makes = deal
        best.setdefault((kind[0], tuple(sorted(takes)), tuple(sorted(makes))), deal)
    return list(best.values())


def is_sort(thing, sort):
    """Whether thing is this SORT: True in the place of 1 is none."""
    if not is_tuple_of(thing, 3) or not is_number(thing[0]) or not is_numbers(thing[1]) or not is_numbers(thing[2]):
        return False
    return thing == sort


def struck(craft):
    """The list, round by round, of the lists, ascending, of the KINDS that are struck."""
    rounds, _ = all_rounds(all_deals(fit_craft(craft)))
    return [[deal[0] for deal in lost] for lost in rounds]


def let_kinds(craft):
    """The list, ascending, of the KINDS that are let."""
    return [deal[0] for deal in deals_let(fit_craft(craft))]


def let_sorts(craft):
    """The set of the SORTS that are let."""
    return sorts_in(deals_let(fit_craft(craft)))


def let_stands(craft):
    """The set of the STANDS that are let."""
    return ascending([deal[3] for deal in deals_let(fit_craft(craft))])


def is_let(craft, kind):
    """Whether this KIND is let; Unfit() if it is none, behind TooMany()."""
    craft = fit_craft(craft)
    left = [deal[0] for deal in deals_let(craft)]
    return fit_kind(craft, kind) in left


def lap_of(laps, sort):
    """The lap of this SORT; Unfit() if it has none."""
    sort = as_tuples(sort, SORT_LEVELS)
    if sort not in laps:
        raise Unfit()
    return laps[sort]


def come_lap(craft, sort):
    """The lap in which this let SORT comes; Unfit() if it is none."""
    return lap_of(come_laps(deals_let(fit_craft(craft))), sort)


def end_lap(craft, sort):
    """The lap in which this let SORT ends; Unfit() if it is none."""
    deals = deals_let(fit_craft(craft))
    return lap_of(end_laps(deals, come_laps(deals)), sort)


def best_kinds(craft):
    """The list, ascending, of the least KIND of each lot of alike ones."""
    return [deal[0] for deal in best_deals(deals_let(fit_craft(craft)))]
