"""Work done ANEW at each look: whether it gets dearer for ever, and what it costs. What is told in [3] and [17]."""

from paidbyheirs.climbs import ring_found
from paidbyheirs.crafts import fit_craft, rows_coming
from paidbyheirs.errors import CanNot
from paidbyheirs.forms import as_tuples, is_below, is_number, is_tuple_of
from paidbyheirs.let import deals_let
from paidbyheirs.lines import NOUGHT
from paidbyheirs.manners import SOME_LEVELS, is_anew
from paidbyheirs.payments import mean_told
from paidbyheirs.states import asked_in, dear_made, leading, numbered_pairs, numbers_at, numbers_made, state_choices
from paidbyheirs.webs import fit_both, is_history, slots_of

MOST_NUMBERED = 60


def dear_in(craft, web, some):
    """The list with, for each VERSION of a WEB of this CRAFT, the pair of its SHAPE and its dear slots."""
    states = []
    for row, elders in web:
        states.append(dear_made(craft, some, row, [states[elder] for elder in elders]))
    return states


def dear_slots(craft, web, some):
    """The tuple with, for each VERSION, the set of its dear slots."""
    craft, web = fit_both(craft, web)
    return tuple([dear for _, dear in dear_in(craft, web, as_tuples(some, SOME_LEVELS))])


def endless_ring(craft, some):
    """A RING; CanNot() if there is none."""
    ring = ring_found(fit_craft(craft), as_tuples(some, SOME_LEVELS))
    if ring is None:
        raise CanNot()
    return ring


def is_slots_in(craft, web, thing):
    """Whether thing is a tuple of pairs (version, slot) of a WEB of this CRAFT."""
    return isinstance(thing, tuple) and all([is_slot_in(craft, web, pair) for pair in thing])


def is_slot_in(craft, web, thing):
    """Whether thing is a pair (version, slot) of a WEB of this CRAFT."""
    if not is_tuple_of(thing, 2) or not is_below(thing[0], len(web)):
        return False
    return is_below(thing[1], len(slots_of(craft, web, thing[0])))


def pairs_from(craft, web, ahead, pair):
    """The list of the pairs (place, slot) by which the slot of this pair (version, slot) keeps or wants that ahead."""
    version, slot = pair
    elders = web[version][1]
    return [(place, asked) for place, asked in asked_in(slots_of(craft, web, version)[slot])
            if (elders[place], asked) == ahead]


def is_level(craft, web, some, pair):
    """Whether the slot of this pair (version, slot) is kept, or has an anew WAIT made there."""
    return slots_of(craft, web, pair[0])[pair[1]][0] == "kept" or is_anew(web, some, pair)


def is_growing(craft, web, states, ahead, pair):
    """Whether the anew WAIT made at this pair costs something, or wants a dear slot besides the one ahead."""
    version, slot = pair
    told = slots_of(craft, web, version)[slot]
    if told[0] != "new":
        return False
    elders = web[version][1]
    dear = [own for own in told[2] if own[1] in states[elders[own[0]]][1]]
    asked = pairs_from(craft, web, ahead, pair)
    return told[1] > 0 or any([own != other for own in asked for other in dear])


def is_ring(craft, some, web, steps, place):
    """Whether these, of the forms of those of a RING, are one."""
    states = dear_in(craft, web, some)
    for at in range(1, len(steps)):
        if not pairs_from(craft, web, steps[at - 1], steps[at]):
            return False
    if not all([is_level(craft, web, some, pair) for pair in steps[1:place + 1]]):
        return False
    first, last = steps[0], steps[place]
    if first[1] != last[1] or states[first[0]] != states[last[0]]:
        return False
    if not any([is_growing(craft, web, states, steps[at - 1], steps[at]) for at in range(1, place + 1)]):
        return False
    row, elders = web[-1]
    return steps[-1] in [(elders[at], slot) for at, slot in craft[1][row][1]]


def is_endless_ring(craft, some, thing):
    """Whether thing is a RING."""
    craft, some = fit_craft(craft), as_tuples(some, SOME_LEVELS)
    if not is_tuple_of(thing, 3):
        return False
    web, steps, place = thing
    if not is_history(craft, web) or not is_slots_in(craft, web, steps):
        return False
    return is_number(place) and 1 <= place < len(steps) and is_ring(craft, some, web, steps, place)


def check_ending(craft, some):
    """CanNot() if CRAFT and SOME are endless."""
    if ring_found(craft, some) is not None:
        raise CanNot()


def pairs_coming(craft, some):
    """The list, ascending, of the NUMBERED pairs that come, CRAFT and SOME not being endless; TooMany()."""
    return sorted(list(numbered_pairs(craft, some, MOST_NUMBERED)))


def slot_numbered(told, anew, elders):
    """What a slot told so is in the numbered CRAFT, elders being the NUMBERED pairs of the elders."""
    if told[0] != "new":
        return told
    return ("new", 0 if anew else told[1] + numbers_at(elders, told[2]), told[2])


def numbered_by(craft, some):
    """numbered_craft(craft, some), some ROW coming, CRAFT and SOME not being endless; TooMany()."""
    pairs = pairs_coming(craft, some)
    places = {pair: place for place, pair in enumerate(pairs)}
    leads = leading(craft)
    rows, numbers = [], []
    for number in rows_coming(craft):
        shapes, looks, cost, _, slots = craft[1][number]
        for elders in state_choices(shapes, pairs):
            made = places[numbers_made(craft, some, leads, number, elders)]
            told = tuple([slot_numbered(own, (number, at) in some, elders) for at, own in enumerate(slots)])
            rows.append((tuple([places[own] for own in elders]), looks, cost + numbers_at(elders, looks), made, told))
            numbers.append(number)
    return (tuple([craft[0][shape] for shape, _ in pairs]), tuple(rows)), tuple(numbers)


def numbered_craft(craft, some):
    """The numbered CRAFT and the ROW of craft for each of its own; CanNot() if endless or no ROW comes; TooMany()."""
    craft, some = fit_craft(craft), as_tuples(some, SOME_LEVELS)
    if not rows_coming(craft):
        raise CanNot()
    check_ending(craft, some)
    return numbered_by(craft, some)


def most_again(craft, some):
    """The greatest number of slots that deeds look at in ALL WEBS, 0 if none do; CanNot() if endless; TooMany()."""
    craft, some = fit_craft(craft), as_tuples(some, SOME_LEVELS)
    check_ending(craft, some)
    pairs = pairs_coming(craft, some)
    most = 0
    for number in rows_coming(craft):
        shapes, looks, _, _, _ = craft[1][number]
        for place, slot in looks:
            most = max([most, *[numbers[slot] for shape, numbers in pairs if shape == shapes[place]]])
    return most


def anew_mean(craft, some):
    """The least FRACTION that each WEB costs at most for each deed; (0, 1) if no ROW comes; CanNot(); TooMany()."""
    craft, some = fit_craft(craft), as_tuples(some, SOME_LEVELS)
    if not rows_coming(craft):
        return NOUGHT
    check_ending(craft, some)
    numbered, _ = numbered_by(craft, some)
    return mean_told(numbered, deals_let(numbered))
