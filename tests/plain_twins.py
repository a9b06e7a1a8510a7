"""What [19] says once more, told as plainly as can be, to try the program against."""

from itertools import combinations

from tests.plain import is_num, is_tup, plain_all_kinds, plain_errand, plain_is_kind, plain_kinds_of, plain_worth


def plain_pairings(parts, likes):
    """All sets of pairs, none ((), ()), in which each of parts, each of likes stands once."""
    pairs = [(part, like) for part in [(), *parts] for like in [(), *likes] if part or like]
    told = []
    for many in range(len(parts) + len(likes) + 1):
        for some in combinations(sorted(pairs), many):
            if sorted(part for part, _ in some if part) == list(parts) and sorted(like for _,
                                                                                  like in some if like) == list(likes):
                told.append(some)
    return told


def plain_all_twins(craft, other):
    kinds, likes = plain_all_kinds(craft), plain_all_kinds(other)
    return sorted((kind, like, parts) for kind in kinds for like in likes if kind[0] == like[0]
                  for parts in plain_pairings(kind[3], like[3]))


def plain_twin_sorts(craft, twin):
    """What a TWIN stands on, takes, what STAND it makes, which SORTS."""
    kind, like, parts = twin
    elders, _, _, shape, _ = craft[1][kind[0]]
    places = list(zip(elders, kind[1], like[1]))
    stand = (shape, (kind[2], like[2]))
    return ([(elder, (own[0], own_like[0])) for elder, own, own_like in places],
            [(elder, (own[0], own_like[0]), (own[1], own_like[1])) for elder, own,
             own_like in places if own[1] or own_like[1]],
            stand, [(*stand, pair) for pair in parts])


def plain_let_twins(craft, other):
    left = plain_all_twins(craft, other)
    while True:
        come, ended, before = set(), set(), None
        while before != (len(come), len(ended)):
            before = (len(come), len(ended))
            for twin in left:
                stands, takes, stand, makes = plain_twin_sorts(craft, twin)
                if come.issuperset([*stands, *takes]):
                    come |= {stand, *makes}
                    if ended.issuperset(makes):
                        ended |= set(takes)
        stays = []
        for twin in left:
            stands, takes, _, makes = plain_twin_sorts(craft, twin)
            if come.issuperset([*stands, *takes]) and ended.issuperset(makes):
                stays.append(twin)
        if stays == left:
            return left
        left = stays


def plain_taken(craft, web):
    """For each pair (heir, place) the slots of the elder that are taken there."""
    taken = {}
    for version, (row, _) in enumerate(web):
        for slot, told in enumerate(craft[1][row][4]):
            way = plain_errand(craft, web, (version, slot)) if told[0] == "new" else None
            if way is None:
                continue
            for (_, own), (heir, to) in zip(way[:-2], way[1:-1]):
                taken.setdefault((heir, craft[1][web[heir][0]][4][to][1]), set()).add(own)
            taken.setdefault(way[-1], set()).add(way[-2][1])
    return {pair: tuple(sorted(slots)) for pair, slots in taken.items()}


def plain_twins_of(craft, other, web):
    both = plain_taken(craft, web), plain_taken(other, web)
    given = [set() for _ in web]
    for heir, (_, elders) in enumerate(web):
        for place, elder in enumerate(elders):
            pair = tuple(taken.get((heir, place), ()) for taken in both)
            if pair != ((), ()):
                given[elder].add(pair)
    return tuple((kind, like, tuple(sorted(pairs)))
                 for kind, like, pairs in zip(plain_kinds_of(craft, web), plain_kinds_of(other, web), given))


def plain_twin_costs(craft, other, bundle):
    return (sum(number * plain_worth(craft, twin[0]) for twin, number in bundle),
            sum(number * plain_worth(other, twin[1]) for twin, number in bundle))


def plain_is_twin_bundle(craft, other, let, thing):
    """Whether thing is a TWIN BUNDLE, let being the let TWINS."""
    if not is_tup(thing) or not thing or not all(is_tup(pair, 2) and is_num(pair[1]) and pair[1] > 0 for pair in thing):
        return False
    for twin, _ in thing:
        if not is_tup(twin, 3) or not plain_is_kind(craft, twin[0]) or not plain_is_kind(other, twin[1]):
            return False
        if repr(twin) not in {repr(own) for own in let}:
            return False
    twins = [twin for twin, _ in thing]
    left = {}
    for twin, number in thing:
        _, takes, _, makes = plain_twin_sorts(craft, twin)
        for sort in makes:
            left[sort] = left.get(sort, 0) + number
        for sort in takes:
            left[sort] = left.get(sort, 0) - number
    return twins == sorted(set(twins)) and not any(left.values())
