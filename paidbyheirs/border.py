"""The border of what is enough: the least that ROWS may pay, and its corners. What is told in [3] and [15]."""

from math import lcm

from paidbyheirs.cones import Cone
from paidbyheirs.crafts import fit_craft, rows_coming
from paidbyheirs.cuts import cut, divided, order
from paidbyheirs.errors import CanNot, NoRow, TooMany, Unfit
from paidbyheirs.forms import exchanged, is_below
from paidbyheirs.let import best_deals, deals_let
from paidbyheirs.lines import NOUGHT, columns_of, gains_without_weight, is_payments, mix_gain, mix_of_best_share
from paidbyheirs.lines import weighed
from paidbyheirs.payments import asked, mix_or_prices

MOST_DONE = 3


def check_row(craft, number):
    """NoRow(number) if this CRAFT has none of this number."""
    if not is_below(number, len(craft[1])):
        raise NoRow(number)


def weights_by(deals, rows):
    """The list with, for each of the best of these DEALS, what it weighs: 1 if it is by one of rows, else 0."""
    return [(int(deal[0][0] in rows), 1) for deal in best_deals(deals)]


def paid_by(payments, rows, parts):
    """payments with parts in the place of what rows pay."""
    for row, part in zip(rows, parts):
        payments = exchanged(payments, row, part)
    return payments


def columns_without(craft, deals, payments, rows):
    """The COLUMNS of the best of these DEALS if rows pay nothing, all others as told."""
    return columns_of(craft, deals, paid_by(payments, rows, [NOUGHT] * len(rows)))


def check_hope(craft, deals, payments, rows):
    """CanNot() if nothing is enough, whatever rows pay, all others paying as told."""
    if gains_without_weight(columns_without(craft, deals, payments, rows), weights_by(deals, rows)):
        raise CanNot()


def least_for(craft, payments, row):
    """The least FRACTION for this ROW that is enough; None if any is; CanNot(), ahead of that, if none is."""
    craft, deals, payments = asked(craft, payments)
    check_row(craft, row)
    check_hope(craft, deals, payments, (row,))
    if row not in rows_coming(craft):
        return None
    columns, weights = columns_without(craft, deals, payments, (row,)), weights_by(deals, (row,))
    mix = mix_of_best_share(columns, weights)
    return divided(mix_gain(columns, mix), weighed(weights, mix))


def free_rows(craft, payments):
    """The set of the ROWS each of which may pay nothing, all others as told."""
    craft, deals, payments = asked(craft, payments)
    free = []
    for row in range(len(payments)):
        mix, _ = mix_or_prices(craft, deals, exchanged(payments, row, NOUGHT))
        if mix is None:
            free.append(row)
    return tuple(free)


def plane_against(craft, deals, payments, rows, ray):
    """The PLANE that takes away what rows pay by this RAY, where it is not enough; None where it is.

    It is told by a BUNDLE: what that costs, less what all other ROWS pay, is
    at most what rows pay. The one that asks most of rows for each deed is
    taken, so that the PLANE goes along the border.
    """
    parts = [cut(part, ray[0]) for part in ray[1:]]
    columns = columns_of(craft, deals, paid_by(payments, rows, parts))
    mix = mix_of_best_share(columns, weights_by(deals, rows))
    if order(mix_gain(columns, mix), NOUGHT) <= 0:
        return None
    number, many = mix_gain(columns_without(craft, deals, payments, rows), mix)
    by_row = [sum([often for deal, often in zip(best_deals(deals), mix) if deal[0][0] == row]) for row in rows]
    return (-number, *[many * often for often in by_row])


def border_rays(craft, deals, payments, rows):
    """The list of the RAYS of the corners of what rows may pay, each of which is done, all others paying as told.

    Each ROW that is done pays its cost at least. From there on what is not
    enough is cut off, until each corner that is left is enough. As there are
    finitely many MIXES to be found, this ends.
    """
    cone = Cone([craft[1][row][2] for row in rows])
    enough = {}
    left = cone.corners()
    while left:
        plane = plane_against(craft, deals, payments, rows, left[0])
        if plane is None:
            enough[left[0]] = True
        else:
            cone.cut(plane)
        left = [ray for ray in cone.corners() if ray not in enough]
    return cone.corners()


def by_worth(rays):
    """The list of the tuples of FRACTIONS that these RAYS tell, ascending by what they come to, place by place."""
    whole = 1
    for ray in rays:
        whole = lcm(whole, ray[0])
    told = sorted([tuple([part * (whole // ray[0]) for part in ray[1:]]) for ray in rays])
    return [tuple([cut(part, whole) for part in parts]) for parts in told]


def bends(craft, payments, row, other):
    """The list, ascending, of the corners of what row and other may pay, all others as told; [] if one is not done."""
    craft, deals, payments = asked(craft, payments)
    check_row(craft, row)
    check_row(craft, other)
    if row == other:
        raise Unfit()
    check_hope(craft, deals, payments, (row, other))
    done = rows_coming(craft)
    if row not in done or other not in done:
        return []
    return by_worth(border_rays(craft, deals, payments, (row, other)))


def corners_of(craft, deals):
    """corners(craft), these DEALS being those of all let KINDS."""
    done = rows_coming(craft)
    if len(done) > MOST_DONE:
        raise TooMany()
    none = (NOUGHT,) * len(craft[1])
    if not done:
        return [none]
    return [paid_by(none, done, parts) for parts in by_worth(border_rays(craft, deals, none, done))]


def corners(craft):
    """The list, ascending, of the corners of what is enough; TooMany() if more than three ROWS are done."""
    craft = fit_craft(craft)
    return corners_of(craft, deals_let(craft))


def is_corner(craft, thing):
    """Whether thing is one of these; TooMany() likewise."""
    craft = fit_craft(craft)
    told = corners_of(craft, deals_let(craft))
    return is_payments(craft, thing) and thing in told
