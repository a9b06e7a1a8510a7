"""WEBS: histories of deeds, and what their slots hold. What is told in [3] and [5]."""

from paidbyheirs.crafts import fit_craft
from paidbyheirs.errors import NoSlot, NoVersion, TooMany, Unfit
from paidbyheirs.forms import as_tuples, is_below, is_tuple_of

# From a WEB down to the elders of a VERSION.
WEB_LEVELS = 3
MOST_WEBS = 2000


def is_web(craft, thing):
    """Whether thing is a WEB of craft, however long."""
    return is_history(fit_craft(craft), thing)


def is_history(craft, thing):
    """Whether thing is a WEB of this CRAFT."""
    if not isinstance(thing, tuple):
        return False
    shapes = []
    for version in thing:
        if not is_next(craft, shapes, version):
            return False
        shapes.append(craft[1][version[0]][3])
    return True


def is_next(craft, shapes, thing):
    """Whether thing is a VERSION that can be made behind those of these SHAPES."""
    if not is_tuple_of(thing, 2):
        return False
    row, elders = thing
    if not is_below(row, len(craft[1])):
        return False
    asked = craft[1][row][0]
    if not is_tuple_of(elders, len(asked)):
        return False
    return all([is_below(elder, len(shapes)) and shapes[elder] == shape for elder, shape in zip(elders, asked)])


def fit_web(craft, web):
    """web as tuples throughout; Unfit() if it is no WEB of this CRAFT, whatever it is."""
    web = as_tuples(web, WEB_LEVELS)
    if not is_history(craft, web):
        raise Unfit()
    return web


def fit_both(craft, web):
    """craft and web as tuples throughout; Unfit() if craft is no CRAFT, or web no WEB of it."""
    craft = fit_craft(craft)
    return craft, fit_web(craft, web)


def check_version(web, version):
    """NoVersion(version) if web has none of this number."""
    if not is_below(version, len(web)):
        raise NoVersion(version)


def check_slot(craft, web, version, slot):
    """NoVersion(version), then NoSlot(slot) if its SHAPE has no such slot."""
    check_version(web, version)
    if not is_below(slot, len(slots_of(craft, web, version))):
        raise NoSlot(slot)


def fit_wait(craft, web, wait):
    """wait as a tuple; NoVersion, then NoSlot, then Unfit() if no WAIT was made there."""
    version, slot = wait
    check_slot(craft, web, version, slot)
    if slots_of(craft, web, version)[slot][0] != "new":
        raise Unfit()
    return (version, slot)


def slots_of(craft, web, version):
    """What the ROW of this VERSION tells of its slots."""
    return craft[1][web[version][0]][4]


def shapes_told(craft, web):
    """The tuple of the SHAPES of the VERSIONS of a WEB of this CRAFT."""
    return tuple([craft[1][row][3] for row, _ in web])


def deeds_behind(craft, web):
    """The list, ascending, of the VERSIONS that can be made behind a WEB of this CRAFT."""
    shapes = shapes_told(craft, web)
    return [(number, elders) for number, row in enumerate(craft[1]) for elders in elder_choices(row[0], shapes)]


def elder_choices(asked, shapes):
    """The list, ascending, of the tuples of VERSIONS that have the SHAPES asked, place by place."""
    choices = [()]
    for shape in asked:
        fit = [version for version, own in enumerate(shapes) if own == shape]
        choices = [(*ahead, elder) for ahead in choices for elder in fit]
    return choices


def next_deeds(craft, web):
    """The list, ascending, of all VERSIONS that can be made behind web."""
    craft, web = fit_both(craft, web)
    return deeds_behind(craft, web)


def all_webs(craft, many):
    """The list, ascending, of all WEBS of so many VERSIONS; TooMany() if there are more than 2,000."""
    craft = fit_craft(craft)
    webs = [()]
    for _ in range(many):
        webs = longer_webs(craft, webs)
    return webs


def longer_webs(craft, webs):
    """The list, ascending, of the WEBS of one VERSION more; TooMany() if there are more than 2,000.

    Where there is a first deed there is a ROW without elders, which can be
    done behind each WEB: so the longer ones are never fewer, and TooMany()
    may be raised ahead of the length that is asked for.
    """
    longer = []
    for web in webs:
        longer.extend([(*web, deed) for deed in deeds_behind(craft, web)])
        if len(longer) > MOST_WEBS:
            raise TooMany()
    return longer


def heirs(web, version):
    """The list, ascending, of the pairs (heir, place) at which this VERSION is the elder."""
    check_version(web, version)
    elders = [own for _, own in web]
    return [(heir, place) for heir, own in enumerate(elders) for place, elder in enumerate(own) if elder == version]


def is_line(web):
    """Whether no VERSION has two heirs, or is both elders of one."""
    asked = [elder for _, elders in web for elder in elders]
    return len(set(asked)) == len(asked)


def shapes_of(craft, web):
    """The tuple of the SHAPES of its VERSIONS."""
    craft, web = fit_both(craft, web)
    return shapes_told(craft, web)


def ahead_of(web, versions):
    """The list, ascending, of the VERSIONS from which one of versions comes."""
    marks = [False] * len(web)
    for version in versions:
        marks[version] = True
    for version in reversed(range(len(web))):
        if marks[version]:
            for elder in web[version][1]:
                marks[elder] = True
    return [version for version, mark in enumerate(marks) if mark]


def comes_from(web, version):
    """The set of the VERSIONS from which that one comes, itself among them."""
    check_version(web, version)
    return tuple(ahead_of(web, [version]))


def slots_held(craft, web):
    """The list with, for each VERSION of a WEB of this CRAFT, the tuple of what its slots hold."""
    holds = []
    for version, (_, elders) in enumerate(web):
        slots = slots_of(craft, web, version)
        holds.append(tuple([held_at(holds, elders, (version, at), slot) for at, slot in enumerate(slots)]))
    return holds


def held_at(holds, elders, place, slot):
    """What a slot told so at this pair (version, slot) holds, if holds tells it for the elders."""
    if slot[0] == "new":
        return place
    if slot[0] == "kept":
        return holds[elders[slot[1]]][slot[2]]
    return None


def held(craft, web):
    """The tuple with, for each VERSION, the tuple of the WAITS that its slots hold, None for nothing."""
    craft, web = fit_both(craft, web)
    return tuple(slots_held(craft, web))


def wants_of(craft, web, holds, wait):
    """The tuple of the WAITS that this one wants, holds being what the slots of web hold."""
    version, slot = wait
    elders = web[version][1]
    asked = [holds[elders[place]][own] for place, own in slots_of(craft, web, version)[slot][2]]
    return tuple([other for other in asked if other is not None])


def wanted(craft, web, wait):
    """The tuple of the WAITS that this one wants, in the order of its wants."""
    craft, web = fit_both(craft, web)
    wait = fit_wait(craft, web, wait)
    return wants_of(craft, web, slots_held(craft, web), wait)


def holders(craft, web, wait):
    """The set of the pairs (version, slot) that hold this WAIT."""
    craft, web = fit_both(craft, web)
    wait = fit_wait(craft, web, wait)
    holds = slots_held(craft, web)
    return tuple([(version, at) for version, slots in enumerate(holds) for at, one in enumerate(slots) if one == wait])


def cut_web(web, versions):
    """The WEB of all from which one of versions comes, numbered anew; NoVersion for the first that is none."""
    for version in versions:
        check_version(web, version)
    left = ahead_of(web, versions)
    numbers = {version: number for number, version in enumerate(left)}
    return tuple([(web[version][0], tuple([numbers[elder] for elder in web[version][1]])) for version in left])


def beside(webs):
    """The WEB of the VERSIONS of the first, then those of the next, and so on."""
    told = []
    for web in webs:
        ahead = len(told)
        told.extend([(row, tuple([ahead + elder for elder in elders])) for row, elders in web])
    return tuple(told)
