"""TWINS: a KIND of one CRAFT with one of its mate, for deeds that are done in both. What is told in [3] and [19].

A DEAL, here, is what matters of a TWIN, as let.py has it of a KIND: the tuple
(twin, stands, takes, stand, makes), by TWIN STANDS and TWIN SORTS.
"""

from paidbyheirs.crafts import fit_craft
from paidbyheirs.cuts import multiplied, order, taken_off
from paidbyheirs.errors import TooMany, Unfit
from paidbyheirs.forms import is_ascending, is_number, is_numbers, is_tuple_of
from paidbyheirs.kinds import MOST_KINDS, is_kind_of, kinds_found, worth_of
from paidbyheirs.let import all_rounds, is_balanced, sorts_in
from paidbyheirs.lines import mix_or_rates

NONE = ((), ())


def is_mated(craft, other):
    """Whether these CRAFTS are mates."""
    sizes, rows = craft
    other_sizes, other_rows = other
    if len(sizes) != len(other_sizes) or len(rows) != len(other_rows):
        return False
    return all([row[0] == like[0] and row[3] == like[3] for row, like in zip(rows, other_rows)])


def fit_mates(craft, other):
    """craft and other as tuples throughout; Unfit() if one is no CRAFT, or they are no mates."""
    craft, other = fit_craft(craft), fit_craft(other)
    if not is_mated(craft, other):
        raise Unfit()
    return craft, other


def pairings(parts, likes):
    """The list of all sets of pairs that hold just these parts and likes, each once, where not paired with ()."""
    told = [((), likes)]
    for part in parts:
        told = [longer for pairs, left in told for longer in paired_with(pairs, left, part)]
    return [tuple(sorted([*pairs, *[((), like) for like in left]])) for pairs, left in told]


def paired_with(pairs, left, part):
    """The list of the pairs (pairs, left) in which part goes with (), or with one of those that are left."""
    return [((*pairs, (part, ())), left),
            *[((*pairs, (part, like)), tuple([own for own in left if own != like])) for like in left]]


def twins_found(craft, other):
    """The list, ascending, of all TWINS of these mates; TooMany() if they are too many, or the KINDS of one are."""
    kinds, likes = kinds_found(craft), kinds_found(other)
    by_row = [[own for own in likes if own[0] == number] for number in range(len(craft[1]))]
    found = []
    for kind in kinds:
        for like in by_row[kind[0]]:
            found.extend([(kind, like, parts) for parts in pairings(kind[3], like[3])])
            if len(found) > MOST_KINDS:
                raise TooMany()
    return sorted(found)


def deal_of_twin(craft, twin):
    """The DEAL of a TWIN of this CRAFT and a mate."""
    kind, like, parts = twin
    elders, _, _, shape, _ = craft[1][kind[0]]
    stands, takes = [], []
    for elder, (flags, part), (other_flags, other_part) in zip(elders, kind[1], like[1]):
        stands.append((elder, (flags, other_flags)))
        if (part, other_part) != NONE:
            takes.append((elder, (flags, other_flags), (part, other_part)))
    stand = (shape, (kind[2], like[2]))
    return (twin, stands, takes, stand, [(*stand, pair) for pair in parts])


def twin_deals(craft, other):
    """The list, ascending, of the DEALS of the let TWINS of these mates; TooMany()."""
    _, left = all_rounds([deal_of_twin(craft, twin) for twin in twins_found(craft, other)])
    return left


def best_twins(deals):
    """The list, ascending, of the first of each lot of DEALS of one ROW that take and make the same."""
    best = {}
    for deal in deals:
        twin, _, takes, _, makes = deal
        best.setdefault((twin[0][0], tuple(sorted(takes)), tuple(sorted(makes))), deal)
    return list(best.values())


def worths_of(craft, other, twin):
    """The pair of the worths of the KINDS of this TWIN, by craft and by other."""
    return (worth_of(craft, twin[0]), worth_of(other, twin[1]))


def twin_costs(craft, other, bundle):
    """The costs of this TWIN BUNDLE, by craft and by other."""
    costs = likes = 0
    for twin, number in bundle:
        worth, like = worths_of(craft, other, twin)
        costs += number * worth
        likes += number * like
    return (costs, likes)


def twin_columns(deals, gains):
    """The COLUMNS of these DEALS with these gains, FRACTIONS, and a place for each TWIN SORT."""
    sorts = sorts_in(deals)
    rows = [tuple([takes.count(sort) - makes.count(sort) for sort in sorts]) for _, _, takes, _, makes in deals]
    return list(zip(gains, rows))


def bundle_of_twins(best, mix):
    """The TWIN BUNDLE of the TWINS of these DEALS, each as often as mix tells."""
    return tuple([(deal[0], number) for deal, number in zip(best, mix) if number])


def dearer_bundle(craft, other, deals, fraction):
    """A TWIN BUNDLE that costs by craft more than fraction times what it does by other; None if none does."""
    best = best_twins(deals)
    if not best:
        return None
    worths = [worths_of(craft, other, deal[0]) for deal in best]
    gains = [taken_off((worth, 1), multiplied(fraction, (like, 1))) for worth, like in worths]
    mix, _ = mix_or_rates(twin_columns(best, gains))
    return None if mix is None else bundle_of_twins(best, mix)


def is_pair_of_parts(thing):
    """Whether thing is a pair of tuples of numbers."""
    return is_tuple_of(thing, 2) and is_numbers(thing[0]) and is_numbers(thing[1])


def is_counted_twin(craft, other, thing):
    """Whether thing is a pair of a triple as TWINS of these mates are, and a number from 1."""
    if not is_tuple_of(thing, 2) or not is_tuple_of(thing[0], 3) or not is_number(thing[1]) or thing[1] < 1:
        return False
    kind, like, parts = thing[0]
    if not is_kind_of(craft, kind) or not is_kind_of(other, like) or not isinstance(parts, tuple):
        return False
    return all([is_pair_of_parts(pair) for pair in parts])


def is_twin_bundle(craft, other, deals, thing):
    """Whether thing is a TWIN BUNDLE of these mates, deals being those of all let TWINS."""
    if not isinstance(thing, tuple) or thing == ():
        return False
    if not all([is_counted_twin(craft, other, pair) for pair in thing]):
        return False
    told = {deal[0]: deal for deal in deals}
    twins = [twin for twin, _ in thing]
    if not is_ascending(twins) or not all([twin in told for twin in twins]):
        return False
    return is_balanced([(told[twin], number) for twin, number in thing])


def is_dearer_bundle(craft, other, deals, fraction, thing):
    """Whether thing is a TWIN BUNDLE that costs by craft more than fraction times what it does by other."""
    if not is_twin_bundle(craft, other, deals, thing):
        return False
    costs, likes = twin_costs(craft, other, thing)
    return order((costs, 1), multiplied(fraction, (likes, 1))) > 0
