"""The rules of the document once more, told as plainly as can be, to try the program against."""

from itertools import product


def is_num(thing):
    return type(thing) is int


def is_tup(thing, *lengths):
    return type(thing) is tuple and (not lengths or len(thing) in lengths)


def plain_is_pair(sizes, elders, thing):
    """Whether thing is a pair (elder, slot) as in looks."""
    return (is_tup(thing, 2) and is_num(thing[0]) and is_num(thing[1]) and 0 <= thing[0] < len(elders)
            and 0 <= thing[1] < sizes[elders[thing[0]]])


def plain_is_slot(sizes, elders, thing):
    if not is_tup(thing) or not thing or type(thing[0]) is not str:
        return False
    if thing[0] == "none":
        return len(thing) == 1
    if thing[0] == "kept":
        return plain_is_pair(sizes, elders, thing[1:])
    if thing[0] != "new" or len(thing) != 3 or not is_num(thing[1]) or thing[1] < 0 or not is_tup(thing[2]):
        return False
    return all(plain_is_pair(sizes, elders, pair) for pair in thing[2]) and list(thing[2]) == sorted(set(thing[2]))


def plain_is_row(sizes, thing):
    if not is_tup(thing, 5) or not is_tup(thing[0], 0, 1, 2) or not is_tup(thing[1]) or not is_tup(thing[4]):
        return False
    elders, looks, cost, shape, slots = thing
    shapes = range(len(sizes))
    if not all(is_num(elder) and elder in shapes for elder in elders):
        return False
    if not all(plain_is_pair(sizes, elders, pair) for pair in looks):
        return False
    if any(looks.count(pair) > 1 for pair in looks):
        return False
    if not is_num(cost) or cost < 0 or not is_num(shape) or shape not in shapes:
        return False
    return len(slots) == sizes[shape] and all(plain_is_slot(sizes, elders, slot) for slot in slots)


def plain_is_craft(thing):
    if not is_tup(thing, 2) or not is_tup(thing[0]) or not is_tup(thing[1]) or not thing[0] or not thing[1]:
        return False
    if not all(is_num(size) and size >= 0 for size in thing[0]):
        return False
    return all(plain_is_row(thing[0], row) for row in thing[1])


def plain_is_web(craft, thing):
    if not is_tup(thing):
        return False
    for number, version in enumerate(thing):
        if not is_tup(version, 2) or not is_num(version[0]) or not is_tup(version[1]):
            return False
        row, elders = version
        if not 0 <= row < len(craft[1]) or not all(is_num(elder) and 0 <= elder < number for elder in elders):
            return False
        if tuple(craft[1][thing[elder][0]][3] for elder in elders) != craft[1][row][0]:
            return False
    return True


def plain_next(craft, web):
    """All deeds behind web: whatever pair makes a WEB of it."""
    told = []
    for row, own in enumerate(craft[1]):
        for elders in product(range(len(web)), repeat=len(own[0])):
            if plain_is_web(craft, (*web, (row, elders))):
                told.append((row, elders))
    return told


def plain_webs(craft, many):
    webs = [()]
    for _ in range(many):
        webs = [(*web, deed) for web in webs for deed in plain_next(craft, web)]
    return webs


class Wait:
    """A WAIT as a thing of its own; held is by whom it is kept, not by name."""

    def __init__(self, name, cost, wants):
        self.name = name
        self.cost = cost
        self.wants = wants
        self.done_by = None

    def force(self, deed, reason, log):
        if self.done_by is None:
            for other in self.wants:
                other.force(deed, (deed, "want", self.name), log)
            self.done_by = reason
            log.append(self)


class Story:
    """What happens in a WEB, deed after deed."""

    def __init__(self, craft, web):
        self.craft = craft
        self.versions = []
        self.waits = {}
        self.logs = []
        self.paid = []
        for row, elders in web:
            self.make(row, elders)

    def make(self, row, elders):
        """Do one deed: first its looks, then its VERSION and its WAITS."""
        _, looks, cost, _, slots = self.craft[1][row]
        own = [self.versions[elder] for elder in elders]
        log = []
        deed = len(self.versions)
        for place, slot in looks:
            if own[place][slot] is not None:
                own[place][slot].force(deed, (deed, "look", place, slot), log)
        made = []
        for at, slot in enumerate(slots):
            made.append(None)
            if slot[0] == "kept":
                made[-1] = own[slot[1]][slot[2]]
            if slot[0] == "new":
                asked = [own[place][number] for place, number in slot[2]]
                made[-1] = Wait((deed, at), slot[1], [one for one in asked if one is not None])
                self.waits[(deed, at)] = made[-1]
        self.versions.append(made)
        self.logs.append(log)
        self.paid.append(cost + sum(wait.cost for wait in log))

    def held(self):
        return tuple(tuple(None if wait is None else wait.name for wait in made) for made in self.versions)

    def ledger(self):
        return tuple(tuple(wait.name for wait in log) for log in self.logs)

    def look(self, version, slot):
        """What a look pays for WAITS; it is done, so ask no more of this Story."""
        log = []
        if self.versions[version][slot] is not None:
            self.versions[version][slot].force(len(self.versions), "look", log)
        return sum(wait.cost for wait in log)
