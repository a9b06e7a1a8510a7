"""DRAFTS: PLANS that grow, deed by deed. What [3] and [11] say of what can be begun, ended and done again.

What a KIND takes can be left out: with all that this one makes of it left
out too, it is a KIND still, and let if the first is. So for each let STAND
there is a let KIND that makes it and takes nothing, and for each let SORT one
that ends it and takes nothing else. And a PART that is made can be made in
pieces instead, so that who takes one for what goes on needs no more slots
than go on: what begins a SORT stays short.
"""


def stand_makers(deals):
    """The dict with, for each STAND of these let DEALS, one that makes it, takes nothing, and comes first."""
    bare = [deal for deal in deals if not deal[2]]
    makers = {}
    many = -1
    while many < len(makers):
        many = len(makers)
        come = [deal for deal in bare if all([stand in makers for stand in deal[1]])]
        for deal in come:
            makers.setdefault(deal[3], deal)
    return makers


def sort_makers(deals):
    """The dict with, for each SORT of these let DEALS, one that makes it, with as few deeds as can be."""
    return fewest([(deal, deal[4], deal[2]) for deal in deals])


def sort_enders(deals):
    """The dict with, for each SORT of these let DEALS, one that takes it alone, ended with as few as can be."""
    return fewest([(deal, deal[2], deal[4]) for deal in deals if len(deal[2]) == 1])


def fewest(told):
    """The dict with, for each SORT, the DEAL that serves it with the fewest deeds in all.

    told are triples: a DEAL, the list of the SORTS that it serves, the list
    of those that are to be served by further deeds.
    """
    many, best = {}, {}
    before = None
    while many != before:
        before = {sort: many[sort] for sort in many}
        for deal, serves, asks in told:
            if all([sort in many for sort in asks]):
                deeds = 1 + sum([many[sort] for sort in asks])
                for sort in serves:
                    if sort not in many or deeds < many[sort]:
                        many[sort] = deeds
                        best[sort] = deal
    return best


class Draft:
    """A PLAN that grows: its STEPS, the first VERSION with each STAND, and the pending PARTS of each SORT."""

    def __init__(self, deals):
        """An empty one; deals are those of all let KINDS."""
        self.stand_makers = stand_makers(deals)
        self.sort_makers = sort_makers(deals)
        self.sort_enders = sort_enders(deals)
        self.steps = []
        self.stands = {}
        self.pending = {}

    def make(self, deal, givers):
        """Make a deed of this DEAL behind the others, by givers whose PARTS are pending no longer."""
        kind, _, _, stand, makes = deal
        number = len(self.steps)
        self.steps.append((kind, tuple(givers)))
        self.stands.setdefault(stand, number)
        for at, sort in enumerate(makes):
            self.pending.setdefault(sort, []).append((number, at))

    def redo(self, deal, givers):
        """Make a deed of a PLAN again that this one has so far."""
        given = [giver for giver in givers if giver[1] is not None]
        for sort, giver in zip(deal[2], given):
            self.pending[sort].remove(giver)
        self.make(deal, givers)

    def do(self, deal, fresh):
        """Make a deed of this DEAL by what is pending, or is begun, if fresh all of it."""
        kind, stands, _, _, _ = deal
        givers = []
        for (flags, part), (shape, _) in zip(kind[1], stands):
            if part:
                givers.append(self.part_for((shape, flags, part), fresh))
            else:
                givers.append((self.stand_for((shape, flags)), None))
        self.make(deal, givers)

    def begin(self, sort):
        """Have a further PART of this SORT pending; what was pending is not taken for it."""
        self.do(self.sort_makers[sort], True)

    def part_for(self, sort, fresh):
        """A PART of this SORT, pending no longer; begun if none is, or if fresh: then it is the last one."""
        if fresh or not self.pending.get(sort):
            self.begin(sort)
        return self.pending[sort].pop()

    def stand_for(self, stand):
        """The first VERSION with this STAND, made if there is none."""
        if stand not in self.stands:
            deal = self.stand_makers[stand]
            self.make(deal, [(self.stand_for(own), None) for own in deal[1]])
        return self.stands[stand]

    def sorts_pending(self):
        """The list, ascending, of the SORTS of which PARTS are pending."""
        return sorted([sort for sort in self.pending if self.pending[sort]])

    def end_all(self):
        """Make deeds until nothing is pending.

        By the SORTS, ascending: so how many deeds these are, and of which
        KINDS, hangs on how many PARTS of each SORT are pending and on which
        STANDS there are, on nothing else.
        """
        sorts = self.sorts_pending()
        while sorts:
            self.do(self.sort_enders[sorts[0]], False)
            sorts = self.sorts_pending()
