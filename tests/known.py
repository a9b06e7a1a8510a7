"""CRAFTS and values on which the tests try the program."""

import random

CHAIN = ((1,), (((), (), 0, 0, (("none",),)), ((0,), (), 0, 0, (("new", 1, ((0, 0),)),)),
                ((0,), ((0, 0),), 0, 0, (("none",),))))
TWINS = ((2, 0), (((), (), 0, 0, (("new", 3, ()), ("new", 3, ()))), ((0,), ((0, 0),), 0, 1, ()),
                  ((0,), ((0, 1),), 0, 1, ())))
MELDS = ((1,), (((), (), 0, 0, (("new", 4, ()),)), ((0, 0), ((0, 0), (1, 0)), 0, 0, (("none",),))))
KEPT = ((2,), (((), (), 0, 0, (("none",), ("new", 1, ()))),
               ((0,), (), 0, 0, (("new", 0, ((0, 0), (0, 1))), ("kept", 0, 1))),
               ((0,), ((0, 0),), 0, 0, (("none",), ("kept", 0, 1)))))
DOUBLE = ((2,), (((), (), 0, 0, (("new", 1, ()), ("new", 1, ()))),
                 ((0,), (), 0, 0, (("new", 0, ((0, 0), (0, 1))), ("new", 0, ((0, 0), (0, 1))))),
                 ((0,), ((0, 0),), 0, 0, (("none",), ("none",)))))
LONE = ((1,), CHAIN[1][:2])
LATE = ((1, 1), (*CHAIN[1], ((1,), ((0, 0),), 5, 1, (("none",),))))
CARRY = ((1,), (((), (), 0, 0, (("new", 2, ()),)), ((0,), (), 0, 0, (("kept", 0, 0),)),
                ((0,), ((0, 0),), 1, 0, (("none",),))))
STRAY = ((0, 0), (((), (), 5, 0, ()), ((1,), (), 0, 1, ())))
SPROUT = ((0, 1), (((), (), 0, 0, ()), ((0,), (), 0, 1, (("new", 5, ()),)), ((1,), ((0, 0),), 0, 0, ())))
# One WAIT in two slots of one VERSION, both wanted by one WAIT and looked at, the later slot first.
COPIES = ((2,), (((), (), 1, 0, (("new", 7, ()), ("new", 9, ()))), ((0,), (), 0, 0, (("kept", 0, 0), ("kept", 0, 0))),
                 ((0,), (), 2, 0, (("new", 1, ((0, 0), (0, 1))), ("kept", 0, 1))),
                 ((0,), ((0, 1), (0, 0)), 3, 0, (("kept", 0, 1), ("none",)))))
# Both elders asked, the second one first, and two WAITS that want of both.
PAIRS = ((2, 1), (((), (), 2, 0, (("new", 10, ()), ("none",))), ((0,), (), 0, 1, (("new", 100, ((0, 0), (0, 1))),)),
                  ((0, 1), ((1, 0), (0, 0)), 1, 0, (("kept", 1, 0), ("kept", 0, 1))),
                  ((0, 0), (), 5, 0, (("new", 1000, ((0, 0), (1, 0), (1, 1))), ("new", 10000, ((1, 1),))))))
# No ROW comes.
NEVER = ((1,), (((0,), (), 0, 0, (("none",),)),))
# SHAPE 2 comes of 1, this of 0; ROWS 0 and 4 are idle, as SHAPE 3 comes of itself alone.
STAIRS = ((0, 1, 1, 0), (((3,), (), 0, 0, ()), ((1,), ((0, 0),), 0, 2, (("kept", 0, 0),)),
                         ((0,), (), 0, 1, (("new", 6, ()),)), ((), (), 4, 0, ()),
                         ((0, 3), (), 0, 3, ()), ((2, 2), ((1, 0),), 0, 2, (("none",),))))
# Slot 1 is never looked at: no VERSION has both in FLAGS.
HALF = ((2, 0), (((), (), 0, 0, (("new", 1, ()), ("new", 1, ()))), ((0,), ((0, 0),), 0, 1, ())))
# What one slot held goes on in one of two; no ROW comes.
PASSES = ((2,), (((0,), (), 1, 0, (("kept", 0, 0), ("kept", 0, 0))),))
# One WAIT handed on from SHAPE to SHAPE, looked at by the last deed alone.
RELAY = ((1, 1, 1), (((), (), 1, 0, (("new", 8, ()),)), ((0,), (), 2, 1, (("kept", 0, 0),)),
                     ((1,), (), 3, 2, (("kept", 0, 0),)), ((2,), ((0, 0),), 4, 2, (("none",),))))
# What is kept of both elders, in one VERSION, is looked at there at once.
SHARES = ((1, 2), (((), (), 1, 0, (("new", 5, ()),)), ((0, 0), (), 2, 1, (("kept", 0, 0), ("kept", 1, 0))),
                   ((1,), ((0, 0), (0, 1)), 3, 0, (("none",),)), ((1, 0), ((0, 1),), 0, 1,
                                                                  (("kept", 0, 0), ("none",)))))

CRAFTS = (CHAIN, TWINS, MELDS, KEPT, DOUBLE, LONE, LATE, CARRY, STRAY, SPROUT, COPIES, PAIRS, NEVER, STAIRS, HALF,
          PASSES,
          RELAY, SHARES)

# As much as the bounds let be, or nearly: slots that are kept, wanted and looked at by two elders.
BOTH = ((0, 0), (0, 1), (1, 0), (1, 1))
AMPLE = ((2, 2, 2), (((), (), 1, 0, (("new", 10 ** 6, ()), ("new", 3, ()))),
                     ((0, 0), BOTH[:2], 2, 1, (("new", 5, BOTH[2:]), ("kept", 1, 0))),
                     ((1, 0), BOTH[2:], 10 ** 6, 2, (("kept", 0, 0), ("new", 7, BOTH[:2]))),
                     ((2, 1), (BOTH[3], BOTH[0]), 4, 0, (("kept", 0, 1), ("new", 2, BOTH))),
                     ((2, 2), (), 5, 2, (("kept", 0, 0), ("kept", 1, 1))),
                     ((0, 2), (BOTH[3],), 6, 1, (("new", 9, BOTH[:1]), ("new", 11, BOTH[2:3])))))

# Rows of KINDS by the score, 1,500 of them in one CRAFT, 1,501 in the other.
MANY_ROWS = (((), (), 1, 0, (("new", 2, ()), ("new", 3, ()))),
             *[((0, 0), BOTH, number, 0, (("new", number, ()), ("new", 1, BOTH[:number % 4]))) for number in range(18)])
BORDER = ((2,), (*MANY_ROWS, ((0, 0), (), 1, 0, (("kept", 1, 1), ("kept", 0, 1))),
                 ((0,), (), 0, 0, (("kept", 0, 1), ("kept", 0, 0))), ((), (), 0, 0, (("new", 3, ()), ("new", 2, ())))))
BEYOND = ((2,), (*MANY_ROWS, ((0, 0), ((1, 0), (0, 1)), 2, 0, (("kept", 1, 1), ("new", 2, ((0, 1), (1, 0)))))))

# 60 NUMBERED pairs come if all is anew.
SIXTY = ((1, 2, 2), (((), (), 0, 0, (("new", 3, ()),)), ((), (), 0, 0, (("new", 1, ()),)),
                     ((2,), ((0, 0), (0, 1)), 0, 0, (("none",),)), ((0, 0), ((0, 0),), 0, 1,
                                                                    (("kept", 0, 0), ("kept", 1, 0))),
                     ((1, 1), ((0, 0), (1, 1)), 0, 2, (("new", 1, ((0, 0), (1, 0))), ("new", 0, ((0, 1), (1, 1))))),
                     ((0, 1), (), 0, 2, (("new", 2, ((0, 0), (1, 0))), ("new", 2, ((0, 0), (1, 1)))))))
# What is dear grows, by an anew WAIT that costs nothing, in a slot that is looked at or not.
GROWS = ((2,), (((), (), 0, 0, (("new", 1, ()), ("none",))), ((0,), (), 0, 0, (("kept", 0, 0), ("new", 0, BOTH[:2]))),
                ((0,), ((0, 1),), 1, 0, (("none",), ("none",)))))
HIDES = ((2,), (*GROWS[1][:2], ((0,), ((0, 0),), 1, 0, (("none",), ("none",)))))
# What is dear is handed from SHAPE to SHAPE, and grows by a turn of all three; a shared WAIT at its end.
TURNS = ((1, 1, 1), (((), (), 1, 0, (("new", 2, ()),)), ((0,), (), 1, 1, (("new", 0, ((0, 0),)),)),
                     ((1,), (), 1, 2, (("kept", 0, 0),)), ((2, 0), (), 1, 0, (("new", 0, ((0, 0), (1, 0))),)),
                     ((2,), (), 0, 2, (("new", 7, ((0, 0),)),)), ((2,), ((0, 0),), 1, 0, (("none",),))))

# What took longest of many thousand CRAFTS: to tell which WAITS must be shared; to tell the corners.
LABOUR = ((2, 2, 1), (((2,), ((0, 0),), 3, 1, (("kept", 0, 0), ("new", 4, ((0, 0),)))),
                      ((1,), (), 2, 0, (("kept", 0, 1), ("new", 3, BOTH[:2]))),
                      ((1,), ((0, 0),), 1, 0, (("none",), ("kept", 0, 1))),
                      ((2,), (), 2, 0, (("new", 2, ((0, 0),)), ("kept", 0, 0))),
                      ((0, 1), ((1, 0), (0, 1), (0, 0)), 2, 1, (("new", 2, ()), ("new", 3, BOTH[1:]))),
                      ((), (), 3, 2, (("new", 4, ()),))))
FACETS = ((2,), (((), (), 0, 0, (("new", 3, ()), ("new", 3, ()))),
                 ((0, 0), ((0, 1), (0, 0), (1, 1)), 1, 0, (("new", 2, ((0, 0),)), ("none",))),
                 ((0,), (), 2, 0, (("new", 1, ()), ("new", 3, ((0, 0),))))))
# Two mates with more than a thousand TWINS.
MATE = ((2,), (((0,), ((0, 0),), 0, 0, (("new", 3, BOTH[:2]), ("none",))), ((), (), 0, 0, (("new", 0, ()), ("none",))),
               ((0, 0), ((1, 1), (0, 1)), 1, 0, (("kept", 1, 1), ("kept", 0, 0))),
               ((), (), 0, 0, (("none",), ("new", 1, ()))),
               ((0,), ((0, 1),), 2, 0, (("new", 1, BOTH[:2]), ("none",))),
               ((0,), (), 0, 0, (("new", 4, ((0, 1),)), ("kept", 0, 0)))))
BUDDY = ((2,), (((0,), ((0, 1),), 2, 0, (("new", 0, ()), ("kept", 0, 1))), ((), (), 3, 0, (("none",), ("new", 3, ()))),
                ((0, 0), ((1, 1),), 3, 0, (("kept", 1, 1), ("kept", 0, 0))),
                ((), (), 2, 0, (("none",), ("new", 3, ()))),
                ((0,), ((0, 1), (0, 0)), 1, 0, (("kept", 0, 0), ("none",))),
                ((0,), ((0, 0),), 3, 0, (("new", 2, BOTH[:2]), ("new", 3, BOTH[:2])))))


def begins(many):
    """A CRAFT of so many ROWS that begin, each WAIT of which costs something else, and one that looks at them."""
    return ((1,), (*[((), (), 0, 0, (("new", cost, ()),)) for cost in range(1, many)],
                   ((0,), ((0, 0),), 0, 0, (("none",),))))


def deep(levels):
    """A tuple nested so many levels deep."""
    nested = ()
    for _ in range(levels - 1):
        nested = (nested,)
    return nested


# Values that are neither a CRAFT, nor a ROW, nor a WEB but ().
JUNK = (True, False, None, 0, 1, -1, 5, 10 ** 30, "", "kept", "none", [], [()], [[], []], ((),), ((), ()), ((), (), ()),
        (1,), (1, 2), (None, None), ("new", 1, ()), (True, False), ((True,), ()), ((1,), ()), ((), (1,)), "ab",
        ("", ""),
        deep(12), [deep(11)])


def as_lists(value):
    """value with lists in the place of tuples, at any depth."""
    if isinstance(value, (list, tuple)):
        return [as_lists(part) for part in value]
    return value


def as_mixed(value, turn=0):
    """value with lists in the place of every second tuple on each way down."""
    if isinstance(value, (list, tuple)):
        parts = [as_mixed(part, turn + at + 1) for at, part in enumerate(value)]
        return parts if turn % 2 else tuple(parts)
    return value


def variants(value, others):
    """All values that are value with one part, itself among them, exchanged for one of others, or lengthened or cut."""
    yield from others
    if not isinstance(value, tuple):
        return
    yield list(value)
    yield (value,)
    yield value[:-1]
    yield value[1:]
    yield value[::-1]
    yield (*value, 0)
    yield (*value, value)
    if value:
        yield (*value, value[-1])
        yield (*value, value[0])
    for at, part in enumerate(value):
        for other in variants(part, others):
            yield (*value[:at], other, *value[at + 1:])


def asked_of(sizes, elders):
    """All pairs (place, slot) that a ROW with these elders may ask for."""
    return [(place, slot) for place, shape in enumerate(elders) for slot in range(sizes[shape])]


def some_slots(dice, asked, size):
    """What so many slots of a ROW hold that may ask for these pairs, as the dice tell."""
    slots = []
    for _ in range(size):
        word = dice.choice(("kept", "none", "new", "new"))
        if word == "kept" and asked:
            slots.append(("kept", *dice.choice(asked)))
        elif word == "none":
            slots.append(("none",))
        else:
            wants = tuple(sorted(dice.sample(asked, dice.randint(0, len(asked)))))
            slots.append(("new", dice.randrange(5), wants))
    return tuple(slots)


def some_row(dice, sizes):
    """A ROW for these sizes, as the dice tell."""
    elders = tuple([dice.randrange(len(sizes)) for _ in range(dice.choice((0, 0, 1, 1, 2)))])
    asked = asked_of(sizes, elders)
    looks = tuple(dice.sample(asked, dice.randint(0, len(asked))))
    shape = dice.randrange(len(sizes))
    slots = some_slots(dice, asked, sizes[shape])
    return (elders, looks, dice.randrange(4), shape, slots)


def diced_crafts(many):
    """So many CRAFTS within the bounds, always the same ones."""
    dice = random.Random(20)
    crafts = []
    for _ in range(many):
        sizes = tuple([dice.randrange(3) for _ in range(dice.randint(1, 3))])
        crafts.append((sizes, tuple([some_row(dice, sizes) for _ in range(dice.randint(1, 6))])))
    return crafts


def mate_of(dice, craft):
    """A mate of craft, as the dice tell: some ROWS are as they are, sizes may be other ones."""
    sizes, rows = craft
    if dice.random() < 0.3:
        sizes = tuple([dice.randrange(3) for _ in sizes])
    told = []
    for elders, looks, cost, shape, slots in rows:
        if sizes != craft[0] or dice.random() < 0.6:
            asked = asked_of(sizes, elders)
            cost, looks = dice.randrange(4), tuple(dice.sample(asked, dice.randint(0, len(asked))))
            slots = some_slots(dice, asked, sizes[shape])
        told.append((elders, looks, cost, shape, slots))
    return (sizes, tuple(told))


def counting(craft):
    """The mate of craft by which each deed costs 1 and nothing waits."""
    return ((0,) * len(craft[0]), tuple([(elders, (), 1, shape, ()) for elders, _, _, shape, _ in craft[1]]))


def paying_at_once(craft):
    """The mate of craft by which each deed costs what it pays at once."""
    costs = [cost + sum(slot[1] for slot in slots if slot[0] == "new") for _, _, cost, _, slots in craft[1]]
    return ((0,) * len(craft[0]), tuple([(row[0], (), cost, row[3], ()) for row, cost in zip(craft[1], costs)]))


def diced_mates(many):
    """So many pairs of CRAFTS that are mates, always the same ones."""
    dice = random.Random(11)
    pairs = []
    for _ in range(many):
        sizes = tuple([dice.randrange(3) for _ in range(dice.randint(1, 3))])
        craft = (sizes, tuple([some_row(dice, sizes) for _ in range(dice.randint(1, 5))]))
        pairs.append((craft, mate_of(dice, craft)))
    return pairs


def diced_webs(craft, many, length, seed=7):
    """So many WEBS of craft of this length, or of none if no ROW comes, always the same ones."""
    from tests.plain import plain_next
    dice = random.Random(seed)
    webs = []
    for _ in range(many):
        web = ()
        for _ in range(length):
            deeds = plain_next(craft, web)
            if deeds:
                web = (*web, dice.choice(deeds))
        webs.append(web)
    return webs
