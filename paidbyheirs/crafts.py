"""CRAFTS: which deeds there are. What is told in [3] and [4]."""

from paidbyheirs.errors import CanNot, NoRow, NoSlot, Unfit
from paidbyheirs.forms import as_tuples, ascending, exchanged
from paidbyheirs.forms import is_ascending, is_below, is_from_zero, is_tuple_of

# From a CRAFT down to the pairs that a new WAIT wants.
CRAFT_LEVELS = 7


def is_craft(thing):
    """Whether thing is a CRAFT."""
    if not is_tuple_of(thing, 2):
        return False
    sizes, rows = thing
    return is_sizes(sizes) and isinstance(rows, tuple) and len(rows) > 0 and all([is_row(sizes, row) for row in rows])


def is_row(sizes, thing):
    """Whether thing is a ROW that CRAFTS with these sizes may have."""
    if not is_tuple_of(thing, 5):
        return False
    elders, looks, cost, shape, slots = thing
    if not is_elders(sizes, elders) or not is_looks(sizes, elders, looks):
        return False
    if not is_from_zero(cost) or not is_below(shape, len(sizes)):
        return False
    return is_tuple_of(slots, sizes[shape]) and all([is_slot(sizes, elders, slot) for slot in slots])


def is_sizes(thing):
    """Whether thing tells how many slots SHAPES have."""
    return isinstance(thing, tuple) and len(thing) > 0 and all([is_from_zero(size) for size in thing])


def is_elders(sizes, thing):
    """Whether thing is a tuple of none, one or two SHAPES."""
    return isinstance(thing, tuple) and len(thing) <= 2 and all([is_below(shape, len(sizes)) for shape in thing])


def is_asked(sizes, elders, thing):
    """Whether thing is a pair of the place of an elder and a slot of its SHAPE."""
    if not is_tuple_of(thing, 2):
        return False
    place, slot = thing
    return is_below(place, len(elders)) and is_below(slot, sizes[elders[place]])


def is_all_asked(sizes, elders, thing):
    """Whether thing is a tuple of such pairs."""
    return isinstance(thing, tuple) and all([is_asked(sizes, elders, pair) for pair in thing])


def is_looks(sizes, elders, thing):
    """Whether thing is a tuple of unlike such pairs, in any order."""
    return is_all_asked(sizes, elders, thing) and len(set(thing)) == len(thing)


def is_slot(sizes, elders, thing):
    """Whether thing tells what a slot of a ROW with these elders holds."""
    if is_tuple_of(thing, 1):
        return thing[0] == "none"
    if not is_tuple_of(thing, 3):
        return False
    if thing[0] == "kept":
        return is_asked(sizes, elders, thing[1:])
    if thing[0] != "new":
        return False
    _, cost, wants = thing
    return is_from_zero(cost) and is_all_asked(sizes, elders, wants) and is_ascending(wants)


def fit_craft(craft):
    """craft as tuples throughout; Unfit() if it is no CRAFT, whatever it is."""
    craft = as_tuples(craft, CRAFT_LEVELS)
    if not is_craft(craft):
        raise Unfit()
    return craft


def shapes_coming(craft):
    """The SHAPES that come, as the keys of a dict.

    No look and no want hinders a deed: a ROW comes if its elders' SHAPES do.
    """
    coming = {}
    many = -1
    while many < len(coming):
        many = len(coming)
        for elders, _, _, shape, _ in craft[1]:
            if all([elder in coming for elder in elders]):
                coming[shape] = True
    return coming


def rows_coming(craft):
    """The list, ascending, of the numbers of the ROWS that come."""
    coming = shapes_coming(craft)
    return [number for number, row in enumerate(craft[1]) if all([elder in coming for elder in row[0]])]


def shapes_made(craft):
    """The set of the SHAPES that come."""
    return ascending(list(shapes_coming(fit_craft(craft))))


def rows_done(craft):
    """The set of the ROWS that come."""
    return tuple(rows_coming(fit_craft(craft)))


def idle_rows(craft):
    """The set of the ROWS that do not come."""
    craft = fit_craft(craft)
    done = rows_coming(craft)
    return tuple([number for number in range(len(craft[1])) if number not in done])


def cut_craft(craft):
    """The CRAFT of the ROWS that come; CanNot() if none comes."""
    craft = fit_craft(craft)
    done = rows_coming(craft)
    if not done:
        raise CanNot()
    sizes, rows = craft
    return (sizes, tuple([rows[number] for number in done]))


def is_order(thing, many):
    """Whether thing is a tuple of all numbers from 0 below many, each once."""
    if not is_tuple_of(thing, many) or not all([is_below(number, many) for number in thing]):
        return False
    return len(set(thing)) == many


def placed(parts, order):
    """The tuple with each part at the place that order tells for it."""
    moved = list(parts)
    for part, place in zip(parts, order):
        moved[place] = part
    return tuple(moved)


def row_with_shapes(row, shapes):
    """row with SHAPE shapes[s] for each SHAPE s."""
    elders, looks, cost, shape, slots = row
    return (tuple([shapes[elder] for elder in elders]), looks, cost, shapes[shape], slots)


def renamed(craft, shapes, rows):
    """craft with SHAPE shapes[s] for s and ROW rows[r] for r; Unfit() if these are not all, each once."""
    sizes, old_rows = fit_craft(craft)
    shapes, rows = as_tuples(shapes, 1), as_tuples(rows, 1)
    if not is_order(shapes, len(sizes)) or not is_order(rows, len(old_rows)):
        raise Unfit()
    return (placed(sizes, shapes), placed([row_with_shapes(row, shapes) for row in old_rows], rows))


def joined_craft(craft, other):
    """The CRAFT with the SHAPES and the ROWS of craft, then those of other."""
    sizes, rows = fit_craft(craft)
    more_sizes, more_rows = fit_craft(other)
    shapes = [len(sizes) + shape for shape in range(len(more_sizes))]
    return (sizes + more_sizes, rows + tuple([row_with_shapes(row, shapes) for row in more_rows]))


def new_slots(craft):
    """The set of the pairs (row, slot) at which a WAIT is made."""
    _, rows = fit_craft(craft)
    slots = [own for _, _, _, _, own in rows]
    return tuple([(row, slot) for row, own in enumerate(slots) for slot, told in enumerate(own) if told[0] == "new"])


def with_cost(craft, row, slot, cost):
    """craft, but what this new WAIT costs is cost; NoRow, then NoSlot, then Unfit() if none is made there."""
    sizes, rows = fit_craft(craft)
    if not is_below(row, len(rows)):
        raise NoRow(row)
    elders, looks, own, shape, slots = rows[row]
    if not is_below(slot, len(slots)):
        raise NoSlot(slot)
    if slots[slot][0] != "new":
        raise Unfit()
    slots = exchanged(slots, slot, ("new", cost, slots[slot][2]))
    return (sizes, exchanged(rows, row, (elders, looks, own, shape, slots)))
