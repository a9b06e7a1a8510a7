"""What must be shared, so that PAYMENTS stay enough. What is told in [3] and [18]."""

from paidbyheirs.anew import numbered_by
from paidbyheirs.climbs import ring_found
from paidbyheirs.crafts import fit_craft, new_slots, rows_coming
from paidbyheirs.errors import CanNot, TooMany
from paidbyheirs.forms import as_tuples, is_ascending, is_numbers, is_tuple_of
from paidbyheirs.kinds import subsets
from paidbyheirs.let import deals_let
from paidbyheirs.lines import fit_payments
from paidbyheirs.manners import SOME_LEVELS
from paidbyheirs.payments import mix_or_prices

MOST_SLOTS = 6


def fit_paid(craft, payments):
    """craft and payments as tuples: Unfit() for craft, then for payments."""
    craft = fit_craft(craft)
    return craft, fit_payments(craft, payments)


def numbered_deals(craft, some):
    """The numbered CRAFT, the DEALS of its let KINDS and the ROWS of craft; None if they are endless; TooMany()."""
    if ring_found(craft, some) is not None:
        return None
    numbered, numbers = numbered_by(craft, some)
    return numbered, deals_let(numbered), numbers


def enough_with(craft, payments, some):
    """Whether PAYMENTS are enough with some; TooMany()."""
    if not rows_coming(craft):
        return True
    told = numbered_deals(craft, some)
    if told is None:
        return False
    numbered, deals, numbers = told
    mix, _ = mix_or_prices(numbered, deals, tuple([payments[number] for number in numbers]))
    return mix is None


def is_enough_with(craft, payments, some):
    """Whether payments are enough with some."""
    craft, payments = fit_paid(craft, payments)
    return enough_with(craft, payments, as_tuples(some, SOME_LEVELS))


def others(slots, lot):
    """The set of all of these slots that are not in lot."""
    return tuple([slot for slot in slots if slot not in lot])


def lot_enough(craft, payments, lot):
    """Whether this LOT is enough: payments are so with all other pairs."""
    craft, payments = fit_paid(craft, payments)
    return enough_with(craft, payments, others(new_slots(craft), as_tuples(lot, SOME_LEVELS)))


def fit_few(craft, payments):
    """craft and payments as tuples, and the new slots: Unfit(), then TooMany() if these are more than six."""
    craft, payments = fit_paid(craft, payments)
    slots = new_slots(craft)
    if len(slots) > MOST_SLOTS:
        raise TooMany()
    return craft, payments, slots


def within(lot, other):
    """Whether all pairs of this LOT stand in the other one."""
    return all([pair in other for pair in lot])


def smaller(lot):
    """The list of the LOTS that are this one without a single pair."""
    return [others(lot, (pair,)) for pair in lot]


def all_lots(slots):
    """The list of all LOTS of these slots, those with more pairs first."""
    lots = subsets(slots)
    return [lot for many in reversed(range(len(slots) + 1)) for lot in lots if len(lot) == many]


def least_within(craft, payments, slots, lot):
    """A least LOT within this one, which is enough: pair by pair what is not needed is taken away."""
    least = lot
    for pair in lot:
        less = others(least, (pair,))
        if enough_with(craft, payments, others(slots, less)):
            least = less
    return least


def least_lots(craft, payments, slots):
    """The list of all least LOTS.

    What stands within a LOT that is not enough is not asked for, nor what a
    LOT that is told stands within. As more is anew in them, smaller LOTS are
    what takes long; so they come last.
    """
    told, fallen = [], []
    for lot in all_lots(slots):
        known = any([within(lot, other) for other in fallen]) or any([within(other, lot) for other in told])
        if not known and enough_with(craft, payments, others(slots, lot)):
            told.append(least_within(craft, payments, slots, lot))
        elif not known:
            fallen.append(lot)
    return told


def must_share(craft, payments):
    """The list, ascending, of all least LOTS; CanNot() if payments are not enough."""
    craft, payments, slots = fit_few(craft, payments)
    lots = least_lots(craft, payments, slots)
    if not lots:
        raise CanNot()
    for lot in lots:
        for less in smaller(lot):
            # That these are not enough is known by now, but not that they are not TooMany() to tell.
            numbered_deals(craft, others(slots, less))
    return sorted(lots)


def is_lot(slots, thing):
    """Whether thing is a set of some of these slots."""
    if not isinstance(thing, tuple) or not all([is_tuple_of(pair, 2) and is_numbers(pair) for pair in thing]):
        return False
    return is_ascending(thing) and within(thing, slots)


def is_must(craft, payments, thing):
    """Whether thing is a least LOT."""
    craft, payments, slots = fit_few(craft, payments)
    if not is_lot(slots, thing) or not enough_with(craft, payments, others(slots, thing)):
        return False
    return not any([enough_with(craft, payments, others(slots, less)) for less in smaller(thing)])
