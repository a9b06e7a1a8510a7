"""STATES: what matters of VERSIONS where work is done anew. What is told in [17].

A STATE is a pair of a SHAPE and the set of the dear slots, or a NUMBERED
pair. Which one a VERSION has hangs on its ROW and on those of its elders
alone: so all that come are found from those without elders on.
"""

from paidbyheirs.crafts import rows_coming
from paidbyheirs.errors import TooMany


def asked_in(told):
    """The tuple of the pairs (place, slot) that a slot told so keeps or wants."""
    if told[0] == "kept":
        return (told[1:],)
    return told[2] if told[0] == "new" else ()


def leading(craft):
    """The dict with True for each pair (shape, slot) that leads to a look."""
    rows = [craft[1][number] for number in rows_coming(craft)]
    leads = {}
    many = -1
    while many < len(leads):
        many = len(leads)
        for elders, looks, _, shape, slots in rows:
            asked = [pair for slot, told in enumerate(slots) if (shape, slot) in leads for pair in asked_in(told)]
            for place, slot in [*looks, *asked]:
                leads[(elders[place], slot)] = True
    return leads


def dear_at(elders, asked):
    """Whether one of the pairs (place, slot) asked of elders of these STATES is dear."""
    return any([slot in elders[place][1] for place, slot in asked])


def is_dear(told, anew, elders):
    """Whether a slot told so is dear, elders being the STATES of the elders."""
    if told[0] == "kept":
        return dear_at(elders, asked_in(told))
    return told[0] == "new" and anew and (told[1] > 0 or dear_at(elders, told[2]))


def dear_made(craft, some, number, elders):
    """The pair of the SHAPE and the dear slots that a deed of this ROW makes of elders of such STATES."""
    _, _, _, shape, slots = craft[1][number]
    return (shape, tuple([slot for slot, told in enumerate(slots) if is_dear(told, (number, slot) in some, elders)]))


def numbers_at(elders, asked):
    """The numbers of the pairs (place, slot) asked of elders of these NUMBERED pairs, added up."""
    return sum([elders[place][1][slot] for place, slot in asked])


def number_of(told, anew, elders):
    """What is paid again for a slot told so, elders being the NUMBERED pairs of the elders."""
    if told[0] == "new" and anew:
        return told[1] + numbers_at(elders, told[2])
    return numbers_at(elders, asked_in(told)) if told[0] == "kept" else 0


def numbers_made(craft, some, leads, number, elders):
    """The NUMBERED pair that a deed of this ROW makes of elders of such; leads are the slots that lead to a look."""
    _, _, _, shape, slots = craft[1][number]
    anew = [(number, slot) in some for slot in range(len(slots))]
    told = [number_of(own, again, elders) for own, again in zip(slots, anew)]
    return (shape, tuple([own if (shape, slot) in leads else 0 for slot, own in enumerate(told)]))


def choices_with_last(shapes, states):
    """The list of the tuples of STATES of these SHAPES, the last one among them."""
    last = states[-1]
    if len(shapes) == 1:
        return [(last,)] if last[0] == shapes[0] else []
    told = []
    if len(shapes) == 2 and last[0] == shapes[0]:
        told.extend([(last, other) for other in states if other[0] == shapes[1]])
    if len(shapes) == 2 and last[0] == shapes[1]:
        told.extend([(other, last) for other in states[:-1] if other[0] == shapes[0]])
    return told


def states_found(craft, made, most):
    """The dict with, for each STATE that comes, the pair (row, elders) of STATES by which it first does.

    made tells the STATE that a ROW makes of elders of such; TooMany() if more
    than most come, None for however many. Elders stand ahead of what is made.
    """
    rows = [(number, craft[1][number][0]) for number in rows_coming(craft)]
    found = {}
    for number, shapes in rows:
        if not shapes:
            found.setdefault(made(number, ()), (number, ()))
    at = 0
    while at < len(found):
        states = list(found)[:at + 1]
        for number, shapes in rows:
            for elders in choices_with_last(shapes, states):
                found.setdefault(made(number, elders), (number, elders))
        if most is not None and len(found) > most:
            raise TooMany()
        at += 1
    return found


def dear_states(craft, some):
    """states_found by the dear slots."""
    def made(number, elders):
        """What a deed makes."""
        return dear_made(craft, some, number, elders)

    return states_found(craft, made, None)


def numbered_pairs(craft, some, most):
    """states_found by the NUMBERED pairs; TooMany() if more than most come."""
    leads = leading(craft)

    def made(number, elders):
        """What a deed makes."""
        return numbers_made(craft, some, leads, number, elders)

    return states_found(craft, made, most)


def state_choices(shapes, states):
    """The list of all tuples of STATES of these SHAPES, in their order."""
    told = [()]
    for shape in shapes:
        fit = [state for state in states if state[0] == shape]
        told = [(*ahead, state) for ahead in told for state in fit]
    return told
