"""PLANS and BUNDLES of KINDS: what is told in [3] and [11]."""

from paidbyheirs.crafts import fit_craft
from paidbyheirs.drafts import Draft
from paidbyheirs.errands import all_kinds_of
from paidbyheirs.errors import CanNot, Unfit
from paidbyheirs.forms import as_tuples, is_ascending, is_below, is_number, is_tuple_of
from paidbyheirs.kinds import is_kind_of, sorts_made, worth_of
from paidbyheirs.let import deal_of, deals_let, is_balanced
from paidbyheirs.webs import fit_both

# From a PLAN, from a BUNDLE, down to the slots of a KIND; from a tuple of SORTS down to theirs.
PLAN_LEVELS = 6
BUNDLE_LEVELS = 6
SORTS_LEVELS = 3


def is_plan(craft, thing):
    """Whether thing is a PLAN of KINDS of craft, let or not."""
    return is_plan_of(fit_craft(craft), thing)


def is_plan_of(craft, thing):
    """Whether thing is a PLAN of KINDS of this CRAFT."""
    if not isinstance(thing, tuple):
        return False
    ahead, given = [], {}
    for step in thing:
        if not is_step(craft, ahead, given, step):
            return False
        ahead.append(step)
    return True


def is_step(craft, ahead, given, thing):
    """Whether thing is a STEP behind those ahead, of which given PARTS are taken; given learns what it takes."""
    if not is_tuple_of(thing, 2) or not is_kind_of(craft, thing[0]):
        return False
    kind, givers = thing
    elders = craft[1][kind[0]][0]
    if not is_tuple_of(givers, len(elders)):
        return False
    for shape, pair, giver in zip(elders, kind[1], givers):
        if not is_giver(craft, ahead, given, (shape, *pair), giver):
            return False
        given[giver] = True
    return True


def is_giver(craft, ahead, given, taken, thing):
    """Whether thing gives what is taken, (shape, flags, part): such a VERSION, that PART, or None if it is ()."""
    if not is_tuple_of(thing, 2) or not is_below(thing[0], len(ahead)):
        return False
    version, number = thing
    shape, flags, part = taken
    kind = ahead[version][0]
    if craft[1][kind[0]][3] != shape or kind[2] != flags:
        return False
    if part == ():
        return number is None
    return is_below(number, len(kind[3])) and kind[3][number] == part and thing not in given


def parts_pending(plan):
    """The list, ascending, of the pairs (version, number) of the PARTS of this PLAN that nobody takes."""
    given = {giver: True for _, givers in plan for giver in givers}
    told = [(version, number) for version, (kind, _) in enumerate(plan) for number in range(len(kind[3]))]
    return [pair for pair in told if pair not in given]


def web_told(plan):
    """The WEB of this PLAN."""
    return tuple([(kind[0], tuple([version for version, _ in givers])) for kind, givers in plan])


def web_of(plan):
    """The WEB of this PLAN: for each STEP the ROW of its KIND, the versions of its givers."""
    return web_told(as_tuples(plan, PLAN_LEVELS))


def pending(plan):
    """The set of the pairs (version, number) of its pending PARTS."""
    return tuple(parts_pending(as_tuples(plan, PLAN_LEVELS)))


def plan_for(craft, web):
    """The whole PLAN of the KINDS of this WEB: each PART is given to the place that takes it there."""
    craft, web = fit_both(craft, web)
    return plan_told(craft, web)


def plan_told(craft, web):
    """The whole PLAN of the KINDS of a WEB of this CRAFT."""
    kinds = all_kinds_of(craft, web)
    plan = []
    for (_, elders), kind in zip(web, kinds):
        plan.append((kind, tuple([given_by(kinds, elder, part) for elder, (_, part) in zip(elders, kind[1])])))
    return tuple(plan)


def given_by(kinds, elder, part):
    """The pair of this elder and the number of this PART among its parts, None for ()."""
    return (elder, kinds[elder][3].index(part) if part else None)


def bundle_of(plan):
    """The set of the pairs of a KIND and how often it stands in plan; Unfit() if this is () or not whole."""
    plan = as_tuples(plan, PLAN_LEVELS)
    if not plan or parts_pending(plan):
        raise Unfit()
    many = {}
    for kind, _ in plan:
        many[kind] = many.get(kind, 0) + 1
    return tuple(sorted(list(many.items())))


def by_kind(deals):
    """The dict with, for each KIND, its DEAL."""
    return {deal[0]: deal for deal in deals}


def is_bundle_of(craft, deals, thing):
    """Whether thing is a BUNDLE of this CRAFT, deals being those of all let KINDS."""
    if not isinstance(thing, tuple) or thing == () or not all([is_counted(craft, pair) for pair in thing]):
        return False
    told = by_kind(deals)
    kinds = [kind for kind, _ in thing]
    if not is_ascending(kinds) or not all([kind in told for kind in kinds]):
        return False
    return is_balanced([(told[kind], number) for kind, number in thing])


def is_counted(craft, thing):
    """Whether thing is a pair of a KIND of this CRAFT and a number from 1."""
    return is_tuple_of(thing, 2) and is_kind_of(craft, thing[0]) and is_number(thing[1]) and thing[1] >= 1


def total_deeds(bundle):
    """How many deeds it has."""
    return sum([number for _, number in bundle])


def total_worth(craft, bundle):
    """The sum of the worths of its deeds."""
    return sum([number * worth_of(craft, kind) for kind, number in bundle])


def rows_told(craft, bundle):
    """The tuple with, for each ROW, how many of its deeds are by it."""
    rows = [0] * len(craft[1])
    for kind, number in bundle:
        rows[kind[0]] += number
    return tuple(rows)


def is_bundle(craft, thing):
    """Whether thing is a BUNDLE of craft."""
    craft = fit_craft(craft)
    return is_bundle_of(craft, deals_let(craft), thing)


def bundle_deeds(bundle):
    """How many deeds it has, each KIND as often as told."""
    return total_deeds(bundle)


def bundle_rows(craft, bundle):
    """The tuple with, for each ROW, how many of its deeds are by it."""
    return rows_told(fit_craft(craft), as_tuples(bundle, BUNDLE_LEVELS))


def bundle_worth(craft, bundle):
    """The sum of the worths of its deeds."""
    return total_worth(fit_craft(craft), as_tuples(bundle, BUNDLE_LEVELS))


def draft_of(craft, deals, plan):
    """A DRAFT with the STEPS of this PLAN, deals being those of all let KINDS."""
    draft = Draft(deals)
    for kind, givers in plan:
        draft.redo(deal_of(craft, kind), givers)
    return draft


def begun(craft, sorts):
    """A PLAN of let KINDS that has pending another PART for each of sorts; CanNot() if one of these is not let."""
    craft = fit_craft(craft)
    draft = Draft(deals_let(craft))
    sorts = as_tuples(sorts, SORTS_LEVELS)
    if not all([sort in draft.sort_makers for sort in sorts]):
        raise CanNot()
    for sort in sorts:
        draft.begin(sort)
    return tuple(draft.steps)


def is_let_from(deals, plan, first):
    """Whether the KINDS of all STEPS of this PLAN from this number on are let."""
    told = by_kind(deals)
    return all([kind in told for kind, _ in plan[first:]])


def is_begun(craft, sorts, thing):
    """Whether thing is a PLAN of let KINDS that has pending another PART for each of sorts."""
    craft = fit_craft(craft)
    deals = deals_let(craft)
    if not is_plan_of(craft, thing) or not is_let_from(deals, thing, 0):
        return False
    left = [sorts_made(craft, thing[version][0])[number] for version, number in parts_pending(thing)]
    sorts = as_tuples(sorts, SORTS_LEVELS)
    return all([sorts.count(sort) <= left.count(sort) for sort in sorts])


def ended(craft, plan):
    """A whole PLAN that begins with the STEPS of plan, all further KINDS let; CanNot() if there is none."""
    craft = fit_craft(craft)
    draft = draft_of(craft, deals_let(craft), as_tuples(plan, PLAN_LEVELS))
    if not all([sort in draft.sort_enders for sort in draft.sorts_pending()]):
        raise CanNot()
    draft.end_all()
    return tuple(draft.steps)


def is_ended(craft, plan, thing):
    """Whether thing is a whole PLAN that begins with the STEPS of plan, all further KINDS let."""
    craft = fit_craft(craft)
    deals = deals_let(craft)
    plan = as_tuples(plan, PLAN_LEVELS)
    if not is_plan_of(craft, thing) or thing[:len(plan)] != plan or not is_let_from(deals, thing, len(plan)):
        return False
    return not parts_pending(thing)


def bundle_with(deals, kind):
    """A BUNDLE that has this KIND, which is let, deals being those of all let KINDS: that of a whole PLAN with it."""
    draft = Draft(deals)
    draft.do(by_kind(deals)[kind], False)
    draft.end_all()
    return bundle_of(draft.steps)


def done_often(craft, bundle, many):
    """A whole PLAN in which this BUNDLE is done so many times.

    What it takes and is not pending is begun: so one time behind another
    what the first left pending is enough, as it made what it took. So it is
    begun once and ended once, for however many times.
    """
    deals = deals_let(craft)
    told = by_kind(deals)
    draft = Draft(deals)
    for _ in range(many):
        for kind, number in bundle:
            for _ in range(number):
                draft.do(told[kind], False)
    draft.end_all()
    return tuple(draft.steps)


def repeated(craft, bundle, many):
    """A whole PLAN in which each KIND of bundle stands so many times as often as there, or oftener."""
    return done_often(fit_craft(craft), as_tuples(bundle, BUNDLE_LEVELS), many)


def rest(craft, bundle):
    """The pair of how many STEPS a repeated PLAN has more than its BUNDLES, and how much more it costs."""
    craft, bundle = fit_craft(craft), as_tuples(bundle, BUNDLE_LEVELS)
    plan = done_often(craft, bundle, 1)
    worths = sum([worth_of(craft, kind) for kind, _ in plan])
    return (len(plan) - total_deeds(bundle), worths - total_worth(craft, bundle))
