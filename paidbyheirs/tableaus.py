"""TABLEAUS: a MIX that gains, or the best one, found exactly by exchanging one COLUMN of a basis for another.

A TABLEAU has a row for each place, a row for the weights and one for the
gains; below them stands its goal, which is to grow: the gains, at first. Its
columns are the COLUMNS of [13], whole numbers throughout, then one for each
place, by which RATES are told at the end, and one, the margins, that lets
steps lead on. All its numbers are to be divided by its scale, which is above
0. The basis has for each place the COLUMN that has the scale there and 0 in
all other rows, None where all COLUMNS have 0.
"""

from math import gcd


class Tableau:
    """COLUMNS that are to come to 0 at each place, and the way to a MIX of them that gains."""

    def __init__(self, rows, weights, gains):
        """rows is a list of the rows of whole numbers of the COLUMNS, weights and gains are as many whole numbers."""
        self.many = len(rows)
        self.places = len(rows[0])
        self.weights = self.places
        self.gains = self.places + 1
        self.goal = self.places + 2
        table = [*[[row[place] for row in rows] for place in range(self.places)], weights, gains, gains]
        self.rows = [[*row, *[int(at == own) for own in range(self.places)], 0] for at, row in enumerate(table)]
        self.scale = 1
        self.basis = [None] * self.places
        self.fill_basis()

    def turn(self, at, column):
        """Have this column come into the basis by row at. Each quotient is whole: it is a minor of the first rows."""
        lead = self.rows[at]
        if lead[column] < 0:
            lead = [-number for number in lead]
        scale = self.scale
        self.rows = [lead if own == at else cleared(row, lead, column, scale) for own, row in enumerate(self.rows)]
        self.scale = lead[column]
        self.basis[at] = column

    def fill_basis(self):
        """Have a column come into the basis by each place, but where all have 0 by now.

        As the places come to 0, each basis will do. The margins are what the
        places are said to come to instead: what grows, and without end, does
        not hang on it, but where they are above 0 the goal grows with each
        step.
        """
        for place in range(self.places):
            found = [column for column in range(self.many) if self.rows[place][column] != 0]
            if found:
                self.turn(place, found[0])
        for place in range(self.places):
            if self.basis[place] is not None:
                self.rows[place][-1] = self.scale * (place + 1)

    def aim(self, more, less):
        """Let the goal be the gains, so many times, less the weights, so many times."""
        gains, weights = self.rows[self.gains], self.rows[self.weights]
        self.rows[self.goal] = [more * gain - less * weight for gain, weight in zip(gains, weights)]

    def climb(self):
        """The column by which the goal grows without end; None if it can not, whatever MIX there is.

        Among several columns the one that promises most comes in, but the
        first as long as steps lead nowhere: so no basis comes back for ever.
        """
        stalled = False
        while True:
            column = self.column_in(stalled)
            if column is None:
                return None
            at = self.row_out(column)
            if at is None:
                return column
            stalled = self.rows[at][-1] == 0
            self.turn(at, column)

    def column_in(self, first):
        """The column by which the goal grows most, or the first one by which it does; None if there is none."""
        row = self.rows[self.goal]
        found = [column for column in range(self.many) if row[column] > 0]
        if first or not found:
            return found[0] if found else None
        most = max([row[column] for column in found])
        return [column for column in found if row[column] == most][0]

    def row_out(self, column):
        """The place that bounds this column most, the first in the basis of several; None if none does."""
        best = None
        for at in range(self.places):
            if self.rows[at][column] > 0 and (best is None or self.is_tighter(at, best, column)):
                best = at
        return best

    def is_tighter(self, at, best, column):
        """Whether place at bounds this column more than place best, or as much and is ahead in the basis."""
        mine, theirs = self.rows[at], self.rows[best]
        return ((mine[-1] * theirs[column], self.basis[at]) < (theirs[-1] * mine[column], self.basis[best]))

    def mix(self, column):
        """The list of the numbers of the MIX of a column that no place bounds and what has to go with it."""
        numbers = [0] * self.many
        numbers[column] = self.scale
        for row, own in zip(self.rows, self.basis):
            if own is not None:
                numbers[own] = -row[column]
        common = 0
        for number in numbers:
            common = gcd(common, number)
        return [number // common for number in numbers]

    def gaining_mix(self):
        """The list of the numbers of a MIX that gains; None if none does."""
        column = self.climb()
        return None if column is None else self.mix(column)

    def best_mix(self):
        """The list of the numbers of a MIX of the greatest share, no MIX of weight 0 gaining; None if all have it.

        Each time the goal is what is gained above the share of the MIX found
        last; if it can not grow, no share is above that one.
        """
        self.aim(0, -1)
        column = self.climb()
        numbers = None
        while column is not None:
            numbers = self.mix(column)
            self.aim(self.rows[self.weights][column], self.rows[self.gains][column])
            column = self.climb()
        return numbers

    def rates(self):
        """The list with, for each place, what it is worth, times the scale, where the gains can not grow."""
        return [-number for number in self.rows[self.gains][self.many:-1]]


def cleared(row, lead, column, scale):
    """row with 0 in this column, having so many times lead taken off; scale is what both were to be divided by."""
    step, times = lead[column], row[column]
    if times == 0:
        return row if step == scale else [step * own // scale for own in row]
    return [(step * own - times * first) // scale for own, first in zip(row, lead)]
