"""MANNERS: what deeds pay if WAITS are done anew, or at once. What is told in [3] and [7]."""

from paidbyheirs.forms import as_tuples
from paidbyheirs.ledgers import account
from paidbyheirs.webs import check_slot, fit_both, slots_of

# From SOME down to a pair.
SOME_LEVELS = 2


def is_anew(web, some, wait):
    """Whether this WAIT was made at a pair of some."""
    version, slot = wait
    return (web[version][0], slot) in some


def forced_cost(craft, web, wants, agains, wait):
    """What it costs to force this WAIT if it is not done, but all shared ones are that it wants, by whatever way."""
    version, slot = wait
    return slots_of(craft, web, version)[slot][1] + sum([agains[other] for other in wants[wait]])


def all_agains(craft, web, wants, some):
    """The dict with, for each WAIT, what a look at it pays if all shared ones are done.

    wants tells the WAITS ascending, so what one wants stands ahead of it.
    """
    agains = {}
    for wait in wants:
        agains[wait] = forced_cost(craft, web, wants, agains, wait) if is_anew(web, some, wait) else 0
    return agains


def all_paid_anew(craft, web, some):
    """The tuple with, for each deed of a WEB of this CRAFT, what it pays.

    What is forced for the first time is so by the deed by which it would be
    done if it were shared. So the LEDGER tells which deed does each shared
    WAIT; at a look or want all that is anew is paid again, how often
    whatever was forced.
    """
    did, holds, wants, _ = account(craft, web)
    agains = all_agains(craft, web, wants, some)
    paid = []
    for (row, elders), waits in zip(web, did):
        asked = [holds[elders[place]][slot] for place, slot in craft[1][row][1]]
        looked = sum([agains[wait] for wait in asked if wait is not None])
        shared = [wait for wait in waits if not is_anew(web, some, wait)]
        done = sum([forced_cost(craft, web, wants, agains, wait) for wait in shared])
        paid.append(craft[1][row][2] + looked + done)
    return tuple(paid)


def all_paid_at_once(craft, web):
    """The tuple with, for each deed of a WEB of this CRAFT, its cost and the costs of the WAITS that it makes."""
    rows = [craft[1][row] for row, _ in web]
    return tuple([cost + sum([slot[1] for slot in slots if slot[0] == "new"]) for _, _, cost, _, slots in rows])


def paid_anew(craft, web, some):
    """The tuple with, for each deed, what it pays."""
    craft, web = fit_both(craft, web)
    return all_paid_anew(craft, web, as_tuples(some, SOME_LEVELS))


def cost_anew(craft, web, some):
    """All that is paid, added up."""
    craft, web = fit_both(craft, web)
    return sum(all_paid_anew(craft, web, as_tuples(some, SOME_LEVELS)))


def paid_at_once(craft, web):
    """The tuple with what each deed pays if it forces all WAITS that it makes."""
    craft, web = fit_both(craft, web)
    return all_paid_at_once(craft, web)


def cost_at_once(craft, web):
    """All that is so paid, added up."""
    craft, web = fit_both(craft, web)
    return sum(all_paid_at_once(craft, web))


def again(craft, web, some, version, slot):
    """What a look at this slot pays if all shared WAITS of web are done."""
    craft, web = fit_both(craft, web)
    check_slot(craft, web, version, slot)
    _, holds, wants, _ = account(craft, web)
    wait = holds[version][slot]
    if wait is None:
        return 0
    return all_agains(craft, web, wants, as_tuples(some, SOME_LEVELS))[wait]
