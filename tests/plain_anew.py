"""What [16], [17] and [18] say once more, told as plainly as can be, to try the program against."""

from itertools import product

from paidbyheirs.manners import again
from tests.plain import is_num, is_tup, plain_all_kinds, plain_is_web, plain_worth


def coming(craft):
    """The numbers of the ROWS that come."""
    shapes, before = set(), None
    while before != len(shapes):
        before = len(shapes)
        shapes |= {row[3] for row in craft[1] if shapes.issuperset(row[0])}
    return [number for number, row in enumerate(craft[1]) if shapes.issuperset(row[0])]


def plain_leads(craft):
    """The pairs (shape, slot) that lead to a look: all that a look asks for, in turn."""
    rows = [craft[1][number] for number in coming(craft)]
    leads = {(row[0][place], slot) for row in rows for place, slot in row[1]}
    while True:
        more = set(leads)
        for elders, _, _, shape, slots in rows:
            for slot, told in enumerate(slots):
                if (shape, slot) in leads and told[0] != "none":
                    more |= {(elders[place], own) for place, own in ([told[1:]] if told[0] == "kept" else told[2])}
        if more == leads:
            return leads
        leads = more


def plain_dear(craft, web, some, version):
    size = craft[0][craft[1][web[version][0]][3]]
    return tuple(slot for slot in range(size) if again(craft, web, some, version, slot) > 0)


def plain_is_ring(craft, some, thing):
    """Whether thing is a RING, as the words of [17] stand."""
    if not is_tup(thing, 3) or not plain_is_web(craft, thing[0]) or not is_tup(thing[1]) or not is_num(thing[2]):
        return False
    web, steps, place = thing
    if not 1 <= place < len(steps):
        return False
    for pair in steps:
        if not is_tup(pair, 2) or not is_num(pair[0]) or not is_num(pair[1]) or not 0 <= pair[0] < len(web):
            return False
        if not 0 <= pair[1] < craft[0][craft[1][web[pair[0]][0]][3]]:
            return False
    grows = False
    for at in range(1, len(steps)):
        (ahead, own), (version, slot) = steps[at - 1], steps[at]
        row, elders = web[version]
        told = craft[1][row][4][slot]
        if told[0] == "kept":
            if (elders[told[1]], told[2]) != (ahead, own):
                return False
            continue
        if told[0] == "none":
            return False
        asked = [pair for pair in told[2] if (elders[pair[0]], pair[1]) == (ahead, own)]
        if not asked or at <= place and (row, slot) not in some:
            return False
        if at <= place:
            dear = [pair for pair in told[2] if pair[1] in plain_dear(craft, web, some, elders[pair[0]])]
            grows = grows or told[1] > 0 or any(one != other for one in asked for other in dear)
    (first, slot), (last, same) = steps[0], steps[place]
    shapes = [craft[1][web[version][0]][3] for version in (first, last)]
    if slot != same or shapes[0] != shapes[1] or not grows:
        return False
    if plain_dear(craft, web, some, first) != plain_dear(craft, web, some, last):
        return False
    row, elders = web[-1]
    return any((elders[at], own) == steps[-1] for at, own in craft[1][row][1])


def plain_numbered(craft, some, most):
    """The NUMBERED pairs that come, or None if there are more than most; and what each ROW makes of which."""
    leads = plain_leads(craft)
    pairs, made = set(), {}
    while True:
        before = len(made)
        for row in coming(craft):
            elders, _, _, shape, slots = craft[1][row]
            fit = [[pair for pair in sorted(pairs) if pair[0] == elder] for elder in elders]
            for own in product(*fit):
                if (row, own) not in made:
                    made[row, own] = (shape,
                                      tuple(plain_number(told, (row, slot) in some, own) * ((shape, slot) in leads)
                                                   for slot, told in enumerate(slots)))
        pairs = set(made.values())
        if len(pairs) > most:
            return None, None
        if len(made) == before:
            return sorted(pairs), made


def plain_number(told, anew, elders):
    if told[0] == "kept":
        return elders[told[1]][1][told[2]]
    if told[0] == "none" or not anew:
        return 0
    return told[1] + sum(elders[place][1][slot] for place, slot in told[2])


def plain_numbered_craft(craft, some):
    """The numbered CRAFT and the numbers of the ROWS of craft, some ROW coming."""
    pairs, made = plain_numbered(craft, some, 10 ** 9)
    rows, numbers = [], []
    for row, elders in sorted(made):
        _, looks, cost, _, slots = craft[1][row]
        told = []
        for slot, own in enumerate(slots):
            if own[0] == "new":
                more = sum(elders[place][1][asked] for place, asked in own[2])
                own = ("new", 0 if (row, slot) in some else own[1] + more, own[2])
            told.append(own)
        rows.append((tuple(pairs.index(own) for own in elders), looks,
                     cost + sum(elders[place][1][slot] for place, slot in looks), pairs.index(made[row, elders]),
                     tuple(told)))
        numbers.append(row)
    return (tuple(craft[0][shape] for shape, _ in pairs), tuple(rows)), tuple(numbers)


def plain_legs(craft):
    """The KINDS of LINES, each with the triples at which it begins and ends, the begin None without an elder."""
    legs = []
    for kind in plain_all_kinds(craft):
        row, takes, flags, parts = kind
        if len(parts) <= 1:
            begin = (craft[1][row][0][0], *takes[0]) if takes else None
            legs.append((kind, begin, (craft[1][row][3], flags, parts[0] if parts else ())))
    while True:
        ends = {end for _, _, end in legs} | {None}
        begins = {begin for _, begin, _ in legs}
        left = [leg for leg in legs if leg[1] in ends and (leg[2][2] == () or leg[2] in begins)]
        if left == legs:
            break
        legs = left
    # What is left may still go round apart from any begin, or with no end.
    come, back = {None}, {end for _, _, end in legs if end[2] == ()}
    for _ in legs:
        come |= {end for _, begin, end in legs if begin in come}
        back |= {begin for _, begin, end in legs if end in back}
    return [leg for leg in legs if leg[1] in come and leg[2] in back]


def plain_most_in_lines(craft, longest):
    """For each number of deeds to longest the most that LINES of so many deeds cost, one behind or beside the other."""
    legs = plain_legs(craft)
    best, most = {None: 0}, []
    for _ in range(longest):
        fresh = {}
        for kind, begin, end in legs:
            if begin in best:
                fresh[end] = max(fresh.get(end, -1), best[begin] + plain_worth(craft, kind))
        best = fresh
        most.append(max([cost for end, cost in best.items() if end[2] == ()], default=None))
    told = [0]
    for many in range(1, longest + 1):
        ways = [told[many - own] + most[own - 1] for own in range(1, many + 1) if most[own - 1] is not None]
        told.append(max(ways, default=0))
    return told


def plain_trees(craft, let, gains, rounds):
    """For each SORT the most that its TREES bring, higher and higher ones: a list of dicts, one for each height."""
    told = []
    for kind in let:
        row, takes, flags, parts = kind
        elders, _, _, shape, _ = craft[1][row]
        sorts = [(elder, *pair) for elder, pair in zip(elders, takes) if pair[1]]
        if sorts:
            told.append((gains[kind], sorts[0], [(shape, flags, part) for part in parts]))
    best = [{}]
    for _ in range(rounds):
        now = {}
        for gain, sort, makes in told:
            if all(own in best[-1] for own in makes):
                brings = gain + sum(best[-1][own] for own in makes)
                now[sort] = max(now.get(sort, brings), brings)
        best.append(now)
    return best
