"""KINDS of deeds: what is forced around a deed, and which errands come and go. What is told in [3] and [9]."""

from paidbyheirs.crafts import fit_craft
from paidbyheirs.errors import TooMany, Unfit
from paidbyheirs.forms import as_tuples, exchanged, is_ascending, is_below, is_set_below, is_tuple_of

# From a KIND down to the slots of the flags that it takes.
KIND_LEVELS = 4
MOST_KINDS = 1500


def is_kind(craft, thing):
    """Whether thing is a KIND of craft."""
    return is_kind_of(fit_craft(craft), thing)


def is_kind_of(craft, thing):
    """Whether thing is a KIND of this CRAFT."""
    if not is_tuple_of(thing, 4) or not is_below(thing[0], len(craft[1])):
        return False
    number, takes, flags, parts = thing
    sizes, row = craft[0], craft[1][number]
    many = sizes[row[3]]
    if not is_takes(sizes, row[0], takes) or not is_set_below(flags, many) or not is_parts(many, flags, parts):
        return False
    return has_fit_flags(row, takes, flags) and has_fit_parts(row, takes, flags, parts)


def is_takes(sizes, elders, thing):
    """Whether thing has, for each of these elders, a pair of a set of its slots and a set within."""
    if not is_tuple_of(thing, len(elders)):
        return False
    return all([is_taken_pair(sizes[shape], pair) for shape, pair in zip(elders, thing)])


def is_taken_pair(many, thing):
    """Whether thing is a pair of a set of slots below many and a set within."""
    if not is_tuple_of(thing, 2):
        return False
    flags, part = thing
    return is_set_below(flags, many) and is_set_below(part, many) and all([slot in flags for slot in part])


def is_parts(many, flags, thing):
    """Whether thing is a set of sets of these flags, none (), no slot in two."""
    if not isinstance(thing, tuple) or not all([is_set_below(part, many) for part in thing]):
        return False
    slots = [slot for part in thing for slot in part]
    return () not in thing and is_ascending(thing) and has_all(flags, slots) and len(set(slots)) == len(slots)


def has_all(flags, slots):
    """Whether all slots stand in flags."""
    return all([slot in flags for slot in slots])


def has_fit_flags(row, takes, flags):
    """Whether 1 to 3 of [3] hold: looks are in the flags of elders, and so is what is kept, and wanted."""
    _, looks, _, _, slots = row
    if not are_flagged(takes, looks):
        return False
    return all([is_fit_slot(takes, told, slot in flags) for slot, told in enumerate(slots)])


def are_flagged(takes, asked):
    """Whether all pairs (place, slot) asked are in the flags of the elders."""
    return all([slot in takes[place][0] for place, slot in asked])


def is_fit_slot(takes, told, flagged):
    """Whether a slot that is told so may be in flags, or not in them, as flagged says."""
    if told[0] == "none":
        return flagged
    if told[0] == "kept":
        return flagged == are_flagged(takes, [told[1:]])
    return not flagged or are_flagged(takes, told[2])


def has_fit_parts(row, takes, flags, parts):
    """Whether 4 and 5 of [3] hold: each errand that comes ends or goes on, parts have just what goes on or begins."""
    _, looks, _, _, slots = row
    asked = pairs_taken(takes)
    gone = [slot for part in parts for slot in part]
    kept = [slots[slot][1:] for slot in gone if slots[slot][0] == "kept"]
    begun = [slot for slot in gone if slots[slot][0] == "new"]
    if len(kept) + len(begun) < len(gone) or len(set(kept)) < len(kept) or sorted(begun) != new_in(slots, flags):
        return False
    if not all([pair in asked and pair not in looks for pair in kept]):
        return False
    ends = ends_in(row, flags)
    return all([pair in kept or pair in ends for pair in asked])


def pairs_taken(takes):
    """The list of the pairs (place, slot) of the PARTS that are taken."""
    return [(place, slot) for place, (_, part) in enumerate(takes) for slot in part]


def new_in(slots, flags):
    """The list, ascending, of the slots of flags at which a WAIT is made."""
    return [slot for slot in flags if slots[slot][0] == "new"]


def ends_in(row, flags):
    """The list of the pairs (place, slot) from which an errand may end in a deed of this ROW with these flags."""
    _, looks, _, _, slots = row
    return [*looks, *[pair for slot in new_in(slots, flags) for pair in slots[slot][2]]]


def subsets(slots):
    """The list of the tuples of some of slots, in their order."""
    told = [()]
    for slot in slots:
        told = [*told, *[(*ahead, slot) for ahead in told]]
    return told


def partings(slots):
    """The list of all sets of sets that hold just these ascending slots, each once."""
    told = [()]
    for slot in slots:
        told = [longer for parts in told for longer in parted_with(parts, slot)]
    return [tuple(sorted(parts)) for parts in told]


def parted_with(parts, slot):
    """The list of parts with slot in one of them, or in a further one."""
    return [(*parts, (slot,)), *[exchanged(parts, at, (*part, slot)) for at, part in enumerate(parts)]]


def takes_at(sizes, row, place):
    """The list of the pairs (flags, part) that deeds of this ROW may take at this place, and maybe some others."""
    elders, looks, _, _, slots = row
    used = [*ends_in(row, list(range(len(slots)))), *[told[1:] for told in slots if told[0] == "kept"]]
    found = []
    for flags in subsets(list(range(sizes[elders[place]]))):
        if has_all(flags, [slot for at, slot in looks if at == place]):
            found.extend([(flags, part) for part in subsets([slot for slot in flags if (place, slot) in used])])
    return found


def all_takes(sizes, row):
    """The list of the tuples of such pairs, place by place."""
    told = [()]
    for place in range(len(row[0])):
        told = [(*ahead, pair) for ahead in told for pair in takes_at(sizes, row, place)]
    return told


def flags_with(slots, takes):
    """The list of the flags that 2 and 3 of [3] let be, if takes are so."""
    told = [()]
    for slot, own in enumerate(slots):
        let = [flagged for flagged in (False, True) if is_fit_slot(takes, own, flagged)]
        told = [(*ahead, slot) if flagged else ahead for ahead in told for flagged in let]
    return told


def gone_with(row, takes, flags):
    """The list of the tuples of slots, ascending, to which errands may go on, those of new WAITS with them."""
    _, looks, _, _, slots = row
    ends = ends_in(row, flags)
    told = [tuple(new_in(slots, flags))]
    for pair in pairs_taken(takes):
        let = [(slot,) for slot in flags if slots[slot] == ("kept", *pair) and pair not in looks]
        if pair in ends:
            let.append(())
        told = [(*ahead, *more) for ahead in told for more in let]
    return [tuple(sorted(gone)) for gone in told]


def kinds_with(number, row, takes):
    """The list of the KINDS of this ROW that take just this."""
    found = []
    for flags in flags_with(row[4], takes):
        for gone in gone_with(row, takes, flags):
            found.extend([(number, takes, flags, parts) for parts in partings(gone)])
    return found


def kinds_found(craft):
    """The list, ascending, of all KINDS of this CRAFT; TooMany() if they are more than 1,500."""
    sizes, rows = craft
    found = []
    for number, row in enumerate(rows):
        for takes in all_takes(sizes, row):
            found.extend(kinds_with(number, row, takes))
            if len(found) > MOST_KINDS:
                raise TooMany()
    return sorted(found)


def worth_of(craft, kind):
    """The worth of a KIND of this CRAFT."""
    _, _, cost, _, slots = craft[1][kind[0]]
    return cost + sum([slots[slot][1] for slot in new_in(slots, kind[2])])


def sorts_taken(craft, kind):
    """The list of the SORTS that a KIND of this CRAFT takes."""
    number, takes, _, _ = kind
    return [(shape, flags, part) for shape, (flags, part) in zip(craft[1][number][0], takes) if part]


def sorts_made(craft, kind):
    """The list of the SORTS that a KIND of this CRAFT makes."""
    number, _, flags, parts = kind
    return [(craft[1][number][3], flags, part) for part in parts]


def fit_kind(craft, kind):
    """kind as tuples throughout; Unfit() if it is no KIND of this CRAFT."""
    kind = as_tuples(kind, KIND_LEVELS)
    if not is_kind_of(craft, kind):
        raise Unfit()
    return kind


def all_kinds(craft):
    """The list, ascending, of all KINDS, those of idle ROWS, too; TooMany() if they are more than 1,500."""
    return kinds_found(fit_craft(craft))


def worth(craft, kind):
    """The worth of this KIND: what its ROW costs, and its WAITS that come to be done."""
    craft = fit_craft(craft)
    return worth_of(craft, fit_kind(craft, kind))


def taken(craft, kind):
    """The list of the SORTS that this KIND takes, elder place by elder place."""
    craft = fit_craft(craft)
    return sorts_taken(craft, fit_kind(craft, kind))


def made(craft, kind):
    """The list of the SORTS that this KIND makes, one for each of its parts, in their order."""
    craft = fit_craft(craft)
    return sorts_made(craft, fit_kind(craft, kind))
