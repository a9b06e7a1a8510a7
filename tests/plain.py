"""The rules of the document once more, told as plainly as can be, to try the program against."""

from itertools import combinations, product


def is_num(thing):
    return type(thing) is int


def is_tup(thing, *lengths):
    return type(thing) is tuple and (not lengths or len(thing) in lengths)


def plain_is_pair(sizes, elders, thing):
    """Whether thing is a pair (elder, slot) as in looks."""
    return (is_tup(thing, 2) and is_num(thing[0]) and is_num(thing[1]) and 0 <= thing[0] < len(elders)
            and 0 <= thing[1] < sizes[elders[thing[0]]])


def plain_is_slot(sizes, elders, thing):
    if not is_tup(thing) or not thing or type(thing[0]) is not str:
        return False
    if thing[0] == "none":
        return len(thing) == 1
    if thing[0] == "kept":
        return plain_is_pair(sizes, elders, thing[1:])
    if thing[0] != "new" or len(thing) != 3 or not is_num(thing[1]) or thing[1] < 0 or not is_tup(thing[2]):
        return False
    return all(plain_is_pair(sizes, elders, pair) for pair in thing[2]) and list(thing[2]) == sorted(set(thing[2]))


def plain_is_row(sizes, thing):
    if not is_tup(thing, 5) or not is_tup(thing[0], 0, 1, 2) or not is_tup(thing[1]) or not is_tup(thing[4]):
        return False
    elders, looks, cost, shape, slots = thing
    shapes = range(len(sizes))
    if not all(is_num(elder) and elder in shapes for elder in elders):
        return False
    if not all(plain_is_pair(sizes, elders, pair) for pair in looks):
        return False
    if any(looks.count(pair) > 1 for pair in looks):
        return False
    if not is_num(cost) or cost < 0 or not is_num(shape) or shape not in shapes:
        return False
    return len(slots) == sizes[shape] and all(plain_is_slot(sizes, elders, slot) for slot in slots)


def plain_is_craft(thing):
    if not is_tup(thing, 2) or not is_tup(thing[0]) or not is_tup(thing[1]) or not thing[0] or not thing[1]:
        return False
    if not all(is_num(size) and size >= 0 for size in thing[0]):
        return False
    return all(plain_is_row(thing[0], row) for row in thing[1])


def plain_is_web(craft, thing):
    if not is_tup(thing):
        return False
    for number, version in enumerate(thing):
        if not is_tup(version, 2) or not is_num(version[0]) or not is_tup(version[1]):
            return False
        row, elders = version
        if not 0 <= row < len(craft[1]) or not all(is_num(elder) and 0 <= elder < number for elder in elders):
            return False
        if tuple(craft[1][thing[elder][0]][3] for elder in elders) != craft[1][row][0]:
            return False
    return True


def plain_next(craft, web):
    """All deeds behind web: whatever pair makes a WEB of it."""
    told = []
    for row, own in enumerate(craft[1]):
        for elders in product(range(len(web)), repeat=len(own[0])):
            if plain_is_web(craft, (*web, (row, elders))):
                told.append((row, elders))
    return told


def plain_webs(craft, many):
    webs = [()]
    for _ in range(many):
        webs = [(*web, deed) for web in webs for deed in plain_next(craft, web)]
    return webs


class Wait:
    """A WAIT as a thing of its own; held is by whom it is kept, not by name."""

    def __init__(self, name, cost, wants):
        self.name = name
        self.cost = cost
        self.wants = wants
        self.done_by = None

    def force(self, deed, reason, log):
        if self.done_by is None:
            for other in self.wants:
                other.force(deed, (deed, "want", self.name), log)
            self.done_by = reason
            log.append(self)


class Story:
    """What happens in a WEB, deed after deed."""

    def __init__(self, craft, web):
        self.craft = craft
        self.versions = []
        self.waits = {}
        self.logs = []
        self.paid = []
        for row, elders in web:
            self.make(row, elders)

    def make(self, row, elders):
        """Do one deed: first its looks, then its VERSION and its WAITS."""
        _, looks, cost, _, slots = self.craft[1][row]
        own = [self.versions[elder] for elder in elders]
        log = []
        deed = len(self.versions)
        for place, slot in looks:
            if own[place][slot] is not None:
                own[place][slot].force(deed, (deed, "look", place, slot), log)
        made = []
        for at, slot in enumerate(slots):
            made.append(None)
            if slot[0] == "kept":
                made[-1] = own[slot[1]][slot[2]]
            if slot[0] == "new":
                asked = [own[place][number] for place, number in slot[2]]
                made[-1] = Wait((deed, at), slot[1], [one for one in asked if one is not None])
                self.waits[(deed, at)] = made[-1]
        self.versions.append(made)
        self.logs.append(log)
        self.paid.append(cost + sum(wait.cost for wait in log))

    def held(self):
        return tuple(tuple(None if wait is None else wait.name for wait in made) for made in self.versions)

    def ledger(self):
        return tuple(tuple(wait.name for wait in log) for log in self.logs)

    def look(self, version, slot):
        """What a look pays for WAITS; it is done, so ask no more of this Story."""
        log = []
        if self.versions[version][slot] is not None:
            self.versions[version][slot].force(len(self.versions), "look", log)
        return sum(wait.cost for wait in log)


class Payer:
    """What deeds pay in a manner: a WAIT at a pair of some is paid whenever it is forced."""

    def __init__(self, craft, web, some):
        self.story = Story(craft, web)
        self.rows = [row for row, _ in web]
        self.some = some
        self.done = set()
        self.paid = []
        for row, elders in web:
            asked = [self.story.versions[elders[place]][slot] for place, slot in craft[1][row][1]]
            self.paid.append(craft[1][row][2] + sum(self.force(wait) for wait in asked if wait is not None))

    def is_anew(self, wait):
        return (self.rows[wait.name[0]], wait.name[1]) in self.some

    def force(self, wait):
        """What is paid for it now."""
        if wait.name in self.done:
            return 0
        pays = sum(self.force(other) for other in wait.wants) + wait.cost
        if not self.is_anew(wait):
            self.done.add(wait.name)
        return pays

    def again(self, wait):
        """What a look pays if all shared ones are done."""
        if wait is None or not self.is_anew(wait):
            return 0
        return wait.cost + sum(self.again(other) for other in wait.wants)


def plain_errand(craft, web, wait):
    """The ERRAND of a WAIT, None if it is not done: found forwards, along all slots that keep it."""
    story = Story(craft, web)
    reason = story.waits[wait].done_by
    if reason is None:
        return None
    if reason[1] == "look":
        heir, place, asked = reason[0], reason[2], reason[3]
    else:
        heir, own = reason[2]
        row, elders = web[heir]
        for place, asked in craft[1][row][4][own][2]:
            held = story.versions[elders[place]][asked]
            if held is not None and held.name == wait:
                break
    goal = (web[heir][1][place], asked)
    ways = [(wait,)]
    for way in ways:
        if way[-1] == goal:
            return (*way, (heir, place))
        for version, (row, elders) in enumerate(web):
            for slot, told in enumerate(craft[1][row][4]):
                if told[0] == "kept" and (elders[told[1]], told[2]) == way[-1]:
                    ways.append((*way, (version, slot)))
    raise AssertionError("no way")


def plain_kinds_of(craft, web):
    """The KINDS of all VERSIONS, from the ERRANDS."""
    story = Story(craft, web)
    flags = [tuple(slot for slot, wait in enumerate(made) if wait is None or wait.done_by is not None)
             for made in story.versions]
    taken = {}
    for wait in story.waits:
        way = plain_errand(craft, web, wait)
        if way is None:
            continue
        for (version, slot), (heir, to) in zip(way[:-2], way[1:-1]):
            place = craft[1][web[heir][0]][4][to][1]
            taken.setdefault((heir, place, version), set()).add(slot)
        taken.setdefault((*way[-1], way[-2][0]), set()).add(way[-2][1])
    kinds = []
    for version, (row, elders) in enumerate(web):
        takes = tuple((flags[elder], tuple(sorted(taken.get((version, place, elder), ()))))
                      for place, elder in enumerate(elders))
        parts = sorted(tuple(sorted(slots)) for (_, _, elder), slots in taken.items() if elder == version)
        kinds.append((row, takes, flags[version], tuple(parts)))
    return tuple(kinds)


def powers(slots):
    """All sets of some of slots."""
    return [tuple(sorted(some)) for many in range(len(slots) + 1) for some in combinations(slots, many)]


def plain_is_set(thing, many):
    return is_tup(thing) and all(is_num(one) and 0 <= one < many for one in thing) and list(thing) == sorted(set(thing))


def plain_is_kind(craft, thing):
    """Whether thing is a KIND, by trying all ways in which the errands that come may end or go on."""
    sizes, rows = craft
    if not is_tup(thing, 4) or not is_num(thing[0]) or not 0 <= thing[0] < len(rows):
        return False
    row, takes, flags, parts = thing
    elders, looks, _, shape, slots = rows[row]
    if not is_tup(takes, len(elders)) or not plain_is_set(flags, sizes[shape]) or not is_tup(parts):
        return False
    for elder, pair in zip(elders, takes):
        if not is_tup(pair, 2) or not plain_is_set(pair[0], sizes[elder]) or not plain_is_set(pair[1], sizes[elder]):
            return False
        if not set(pair[1]) <= set(pair[0]):
            return False
    if not all(plain_is_set(part, sizes[shape]) and part and set(part) <= set(flags) for part in parts):
        return False
    told = [slot for part in parts for slot in part]
    if list(parts) != sorted(set(parts)) or len(told) != len(set(told)):
        return False
    if not all(slot in takes[place][0] for place, slot in looks):
        return False
    new = [slot for slot in flags if slots[slot][0] == "new"]
    for slot, own in enumerate(slots):
        if own[0] == "none" and slot not in flags:
            return False
        if own[0] == "kept" and (slot in flags) != (own[2] in takes[own[1]][0]):
            return False
    if not all(slot in takes[place][0] for own in new for place, slot in slots[own][2]):
        return False
    asked = [(place, slot) for place, (_, part) in enumerate(takes) for slot in part]
    fates = []
    for pair in asked:
        keeps = [slot for slot, own in enumerate(slots) if own == ("kept", *pair)]
        wanted = any(pair in slots[own][2] for own in new)
        fates.append([None] if pair in looks else [*keeps, *([None] if wanted else [])])
    return any(sorted([*new, *[slot for slot in fate if slot is not None]]) == sorted(told)
               for fate in product(*fates))


def plain_parts(slots):
    """All sets of sets, none (), that hold just slots."""
    some = [part for part in powers(slots) if part]
    return [parts for parts in powers(some) if sorted(slot for part in parts for slot in part) == sorted(slots)]


def plain_all_kinds(craft):
    sizes, rows = craft
    told = []
    for number, (elders, _, _, shape, _) in enumerate(rows):
        pairs = [[(flags, part) for flags in powers(range(sizes[elder])) for part in powers(flags)] for elder in elders]
        for takes in product(*pairs):
            for flags in powers(range(sizes[shape])):
                for gone in powers(flags):
                    told.extend((number, takes, flags, parts) for parts in plain_parts(gone))
    return sorted(kind for kind in told if plain_is_kind(craft, kind))


def plain_sorts(craft, kind):
    """The STANDS and SORTS of a KIND: stands on, takes, stand, makes."""
    row, takes, flags, parts = kind
    elders, _, _, shape, _ = craft[1][row]
    return ([(elder, pair[0]) for elder, pair in zip(elders, takes)],
            [(elder, *pair) for elder, pair in zip(elders, takes) if pair[1]],
            (shape, flags), [(shape, flags, part) for part in parts])


def plain_struck(craft):
    """The rounds of striking and what is left, one thing after another until no more comes or ends."""
    left = plain_all_kinds(craft)
    rounds = []
    while True:
        come, ended, before = set(), set(), None
        while before != (len(come), len(ended)):
            before = (len(come), len(ended))
            for kind in left:
                stands, takes, stand, makes = plain_sorts(craft, kind)
                if come.issuperset(stands) and come.issuperset(takes):
                    come |= {stand, *makes}
                    if ended.issuperset(makes):
                        ended |= set(takes)
        bad = []
        for kind in left:
            stands, takes, _, makes = plain_sorts(craft, kind)
            if not come.issuperset([*stands, *takes]) or not ended.issuperset(makes):
                bad.append(kind)
        if not bad:
            return rounds, left
        rounds.append(bad)
        left = [kind for kind in left if kind not in bad]


def plain_is_plan(craft, thing):
    """Whether thing is a PLAN, each STEP held against all those ahead of it."""
    if not is_tup(thing):
        return False
    given = []
    for at, step in enumerate(thing):
        if not is_tup(step, 2) or not plain_is_kind(craft, step[0]) or not is_tup(step[1]):
            return False
        (row, takes, _, _), givers = step
        if len(givers) != len(takes):
            return False
        for elder, (flags, part), giver in zip(craft[1][row][0], takes, givers):
            if not is_tup(giver, 2) or not is_num(giver[0]) or not 0 <= giver[0] < at:
                return False
            other = thing[giver[0]][0]
            if craft[1][other[0]][3] != elder or other[2] != flags:
                return False
            if not part:
                if giver[1] is not None:
                    return False
                continue
            if not is_num(giver[1]) or not 0 <= giver[1] < len(other[3]) or other[3][giver[1]] != part:
                return False
            if giver in given:
                return False
            given.append(giver)
    return True


def plain_pending(plan):
    """The pairs (version, number) of the PARTS that nobody takes."""
    parts = [(version, number) for version, (kind, _) in enumerate(plan) for number in range(len(kind[3]))]
    for _, givers in plan:
        for giver in givers:
            if giver[1] is not None:
                parts.remove(giver)
    return tuple(parts)


def plain_balance(craft, bundle):
    """How often the KINDS of bundle make each SORT less how often they take it, all that is not even."""
    left = {}
    for kind, number in bundle:
        _, takes, _, makes = plain_sorts(craft, kind)
        for sort in makes:
            left[sort] = left.get(sort, 0) + number
        for sort in takes:
            left[sort] = left.get(sort, 0) - number
    return {sort: many for sort, many in left.items() if many}


def plain_is_bundle(craft, let, thing):
    """Whether thing is a BUNDLE, let being the let KINDS."""
    if not is_tup(thing) or not thing or not all(is_tup(pair, 2) and is_num(pair[1]) and pair[1] > 0 for pair in thing):
        return False
    if not all(plain_is_kind(craft, kind) and kind in let for kind, _ in thing):
        return False
    kinds = [kind for kind, _ in thing]
    return kinds == sorted(set(kinds)) and not plain_balance(craft, thing)


def plain_worth(craft, kind):
    row, _, flags, _ = kind
    _, _, cost, _, slots = craft[1][row]
    return cost + sum(own[1] for slot, own in enumerate(slots) if own[0] == "new" and slot in flags)
