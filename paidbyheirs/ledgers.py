"""LEDGERS: which deed does which WAIT, and pays for it. What is told in [3] and [6]."""

from paidbyheirs.webs import check_slot, fit_both, fit_wait, slots_held, slots_of, wants_of


def all_wants(craft, web, holds):
    """The dict with, for each WAIT made in web, ascending, the tuple of those that it wants."""
    wants = {}
    for version in range(len(web)):
        for slot, told in enumerate(slots_of(craft, web, version)):
            if told[0] == "new":
                wants[(version, slot)] = wants_of(craft, web, holds, (version, slot))
    return wants


def force(wants, reasons, deed, wait, reason):
    """Have this deed force wait: the list of the WAITS that come to be done, in their order.

    reasons tells by what each WAIT was done, and learns it of these; reason
    is that of wait. A WAIT stands there from when it begins to be forced on:
    none wants itself, by whatever way, so none is met on its own way again.
    The way is kept in a list, as it may be as long as the WEB.
    """
    if wait in reasons:
        return []
    reasons[wait] = reason
    did = []
    way = [(wait, 0)]
    while way:
        own, at = way.pop()
        if at == len(wants[own]):
            did.append(own)
        else:
            way.append((own, at + 1))
            other = wants[own][at]
            if other not in reasons:
                reasons[other] = (deed, "want", own)
                way.append((other, 0))
    return did


def look_all(craft, web, holds, wants, reasons, deed):
    """The tuple of the WAITS that come to be done by the looks of this deed; reasons learns by what."""
    row, elders = web[deed]
    did = []
    for place, slot in craft[1][row][1]:
        wait = holds[elders[place]][slot]
        if wait is not None:
            did.extend(force(wants, reasons, deed, wait, (deed, "look", place, slot)))
    return tuple(did)


def account(craft, web):
    """The LEDGER of a WEB of this CRAFT, what its slots hold, what its WAITS want, and by what they were done."""
    holds = slots_held(craft, web)
    wants = all_wants(craft, web, holds)
    reasons = {}
    did = [look_all(craft, web, holds, wants, reasons, deed) for deed in range(len(web))]
    return tuple(did), holds, wants, reasons


def waits_cost(craft, web, waits):
    """What these WAITS cost, added up."""
    return sum([slots_of(craft, web, version)[slot][1] for version, slot in waits])


def all_paid(craft, web):
    """The tuple with what each deed of a WEB of this CRAFT paid."""
    did, _, _, _ = account(craft, web)
    return tuple([craft[1][row][2] + waits_cost(craft, web, waits) for (row, _), waits in zip(web, did)])


def ledger(craft, web):
    """The LEDGER of web: for each deed the tuple of the WAITS that it did, in their order."""
    craft, web = fit_both(craft, web)
    did, _, _, _ = account(craft, web)
    return did


def paid(craft, web):
    """The tuple with what each deed paid."""
    craft, web = fit_both(craft, web)
    return all_paid(craft, web)


def cost(craft, web):
    """All that is paid, added up."""
    craft, web = fit_both(craft, web)
    return sum(all_paid(craft, web))


def forced_by(craft, web, wait):
    """By what this WAIT was done, (deed, "look", place, slot) or (deed, "want", other); None if it is not done."""
    craft, web = fit_both(craft, web)
    wait = fit_wait(craft, web, wait)
    _, _, _, reasons = account(craft, web)
    return reasons.get(wait)


def unforced(craft, web):
    """The set of the WAITS that are not done."""
    craft, web = fit_both(craft, web)
    _, _, wants, reasons = account(craft, web)
    return tuple([wait for wait in wants if wait not in reasons])


def look_now(craft, web, version, slot):
    """What a look at this slot, behind web, would pay for WAITS."""
    craft, web = fit_both(craft, web)
    check_slot(craft, web, version, slot)
    _, holds, wants, reasons = account(craft, web)
    wait = holds[version][slot]
    if wait is None:
        return 0
    deed = len(web)
    return waits_cost(craft, web, force(wants, reasons, deed, wait, (deed, "look", 0, slot)))
