"""ERRANDS: the one heir by which each WAIT is done, and the KINDS of deeds. What is told in [3] and [8]."""

from paidbyheirs.errors import CanNot
from paidbyheirs.ledgers import account
from paidbyheirs.webs import fit_both, fit_wait, slots_of


def asked_by(craft, web, holds, reasons, wait):
    """The triple (heir, place, slot) by which this WAIT, which is done, was asked for."""
    reason = reasons[wait]
    if reason[1] == "look":
        deed, _, place, slot = reason
        return (deed, place, slot)
    heir, own = reason[2]
    elders = web[heir][1]
    place, slot = [(at, on) for at, on in slots_of(craft, web, heir)[own][2] if holds[elders[at]][on] == wait][0]
    return (heir, place, slot)


def way_to(craft, web, asked):
    """The ERRAND that ends with what was asked for: (heir, place, slot).

    The way is found from its end, as a slot keeps one other slot alone.
    """
    heir, place, slot = asked
    way = [(heir, place)]
    version = web[heir][1][place]
    told = slots_of(craft, web, version)[slot]
    while told[0] == "kept":
        way.append((version, slot))
        _, place, slot = told
        version = web[version][1][place]
        told = slots_of(craft, web, version)[slot]
    way.append((version, slot))
    return tuple(way[::-1])


def slots_gone(craft, web, way):
    """The list of the triples (heir, place, slot): by this place this ERRAND goes on from this slot of the elder."""
    gone = []
    for (_, slot), (heir, to) in zip(way[:-2], way[1:-1]):
        gone.append((heir, slots_of(craft, web, heir)[to][1], slot))
    heir, place = way[-1]
    gone.append((heir, place, way[-2][1]))
    return gone


def all_flags(holds, reasons):
    """The tuple with the FLAGS of each VERSION."""
    return tuple([tuple([at for at, wait in enumerate(slots) if wait is None or wait in reasons]) for slots in holds])


def all_parts(craft, web, holds, reasons):
    """The tuple with, for each VERSION, the tuple of the PARTS that it takes."""
    taken = [[[] for _ in elders] for _, elders in web]
    for wait in reasons:
        way = way_to(craft, web, asked_by(craft, web, holds, reasons, wait))
        for heir, place, slot in slots_gone(craft, web, way):
            taken[heir][place].append(slot)
    return tuple([tuple([tuple(sorted(slots)) for slots in places]) for places in taken])


def parts_given(web, parts):
    """The list with, for each VERSION, the list of the PARTS, but (), that are taken from it."""
    given = [[] for _ in web]
    for (_, elders), places in zip(web, parts):
        for elder, part in zip(elders, places):
            if part:
                given[elder].append(part)
    return given


def all_kinds_of(craft, web):
    """The tuple with the KIND of each VERSION of a WEB of this CRAFT."""
    _, holds, _, reasons = account(craft, web)
    flags = all_flags(holds, reasons)
    parts = all_parts(craft, web, holds, reasons)
    kinds = []
    for (row, elders), own, places, given in zip(web, flags, parts, parts_given(web, parts)):
        takes = tuple([(flags[elder], part) for elder, part in zip(elders, places)])
        kinds.append((row, takes, own, tuple(sorted(given))))
    return tuple(kinds)


def flags_of(craft, web):
    """The tuple with the FLAGS of each VERSION: its slots that hold nothing, or a WAIT that is done."""
    craft, web = fit_both(craft, web)
    _, holds, _, reasons = account(craft, web)
    return all_flags(holds, reasons)


def errand(craft, web, wait):
    """The ERRAND of this WAIT, a tuple of pairs; CanNot() if it is not done."""
    craft, web = fit_both(craft, web)
    wait = fit_wait(craft, web, wait)
    _, holds, _, reasons = account(craft, web)
    if wait not in reasons:
        raise CanNot()
    return way_to(craft, web, asked_by(craft, web, holds, reasons, wait))


def parts_taken(craft, web):
    """The tuple with, for each VERSION, the tuple of the PARTS that it takes, elder place by place."""
    craft, web = fit_both(craft, web)
    _, holds, _, reasons = account(craft, web)
    return all_parts(craft, web, holds, reasons)


def kinds_of(craft, web):
    """The tuple with the KIND of each VERSION."""
    craft, web = fit_both(craft, web)
    return all_kinds_of(craft, web)
