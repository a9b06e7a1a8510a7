"""A BOARD: a CRAFT and a WEB of it that grows, deed by deed. What is told in [22]."""

from paidbyheirs.bundles import plan_told
from paidbyheirs.crafts import fit_craft
from paidbyheirs.cuts import added, taken_off
from paidbyheirs.errands import all_kinds_of
from paidbyheirs.errors import NoRow, NothingDone, Unfit
from paidbyheirs.forms import as_tuples, is_below
from paidbyheirs.kinds import sorts_made, sorts_taken, worth_of
from paidbyheirs.ledgers import all_paid, look_now, unforced
from paidbyheirs.let import deals_let, sorts_in
from paidbyheirs.lines import NOUGHT, fit_payments
from paidbyheirs.payments import are_prices
from paidbyheirs.webs import check_version, cut_web, deeds_behind, shapes_told

# From PRICES down to the slots of a SORT.
PRICES_LEVELS = 4


class Board:
    """A CRAFT and a WEB of it, with what can be taken back and done again.

    back and ahead are lists of pairs (name, WEB): the WEB ahead of each deed
    that can be taken back, behind each that can be done again; the next one
    is the last.
    """

    def __init__(self, craft):
        """The CRAFT with the WEB (); Unfit() if craft is none."""
        self.craft = fit_craft(craft)
        self.now = ()
        self.back = []
        self.ahead = []

    def do(self, row, elders):
        """Make the VERSION (row, elders); NoRow, then Unfit(), NoVersion, Unfit() for its elders."""
        if not is_below(row, len(self.craft[1])):
            raise NoRow(row)
        shapes, asked = shapes_told(self.craft, self.now), self.craft[1][row][0]
        elders = tuple(elders)
        if len(elders) != len(asked):
            raise Unfit()
        for elder in elders:
            check_version(self.now, elder)
        if tuple([shapes[elder] for elder in elders]) != asked:
            raise Unfit()
        self._become("do", (*self.now, (row, elders)))

    def keep(self, versions):
        """Leave only what these VERSIONS come from; NoVersion for the first that is none."""
        self._become("keep", cut_web(self.now, versions))

    def _become(self, name, web):
        """Have this WEB, by a deed of this name: what was taken back can not be done again."""
        self.back.append((name, self.now))
        self.ahead = []
        self.now = web

    def undo(self):
        """Take the last deed back: its name; NothingDone() if there is none."""
        if not self.back:
            raise NothingDone()
        name, web = self.back.pop()
        self.ahead.append((name, self.now))
        self.now = web
        return name

    def redo(self):
        """Do the last deed again that is taken back: its name; NothingDone() if there is none."""
        if not self.ahead:
            raise NothingDone()
        name, web = self.ahead.pop()
        self.back.append((name, self.now))
        self.now = web
        return name

    def web(self):
        """The WEB."""
        return self.now

    def can_come(self):
        """The list, ascending, of all VERSIONS that can be made."""
        return deeds_behind(self.craft, self.now)

    def cost_now(self):
        """What the WEB costs."""
        return sum(all_paid(self.craft, self.now))

    def paid_now(self):
        """The tuple of what each deed paid."""
        return all_paid(self.craft, self.now)

    def look(self, version, slot):
        """What a look at this slot would pay now; NoVersion, then NoSlot."""
        return look_now(self.craft, self.now, version, slot)

    def undone(self):
        """The set of the WAITS that are not done."""
        return unforced(self.craft, self.now)

    def kind(self, version):
        """The KIND of this VERSION, as of now; NoVersion."""
        check_version(self.now, version)
        return all_kinds_of(self.craft, self.now)[version]

    def accounts(self, payments, prices):
        """The list, STEP by STEP, of what is left of payments and what is owed by prices; TooMany(), then Unfit()."""
        deals = deals_let(self.craft)
        payments = fit_payments(self.craft, payments)
        prices = as_tuples(prices, PRICES_LEVELS)
        if not are_prices(sorts_in(deals), prices):
            raise Unfit()
        by_sort = {sort: price for sort, price in prices}
        told = [(NOUGHT, NOUGHT)]
        for kind, _ in plan_told(self.craft, self.now):
            left, owed = told[-1]
            left = added(left, taken_off(payments[kind[0]], (worth_of(self.craft, kind), 1)))
            told.append((left, added(owed, owed_by(self.craft, by_sort, kind))))
        return told

    def twin(self):
        """Another Board that holds the same."""
        other = Board(self.craft)
        other.now = self.now
        other.back = list(self.back)
        other.ahead = list(self.ahead)
        return other

    def __eq__(self, other):
        """Whether other is a Board with an equal CRAFT and an equal WEB."""
        return isinstance(other, Board) and self.craft == other.craft and self.now == other.now


def owed_by(craft, by_sort, kind):
    """The prices of the SORTS that a KIND makes, less those of the SORTS that it takes."""
    owed = NOUGHT
    for sort in sorts_made(craft, kind):
        owed = added(owed, by_sort[sort])
    for sort in sorts_taken(craft, kind):
        owed = taken_off(owed, by_sort[sort])
    return owed
