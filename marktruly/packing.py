"""Packing: rows, the greatest sum that one has, and the prices that show that none has more."""

from marktruly.basics import capped, readable_of
from marktruly.shares import Share, sum_of


class Tableau:
    """The greatest sum of amounts from 0 on, where those that a row marks by 1 are together at most its limit.

    The quantities are the amounts, in order, and behind them for each row what it leaves of its limit. Each of them
    either has a column, and is 0, or has a row, whose last number tells how much it is. All numbers are integers
    that stand for themselves divided by unit: so no fraction is needed, and none is rounded.
    """

    def __init__(self, rows, limits):
        many = len(rows[0])
        self.unit = 1
        self.rows = [[*row, limit] for row, limit in zip(rows, limits)]
        # The last row is that of the sum: what is below 0 in it makes the sum grow.
        self.rows.append([-1] * many + [0])
        self.absent = list(range(many))
        self.present = list(range(many, many + len(rows)))

    def solve(self):
        """Exchange columns and rows until no quantity with a column makes the sum grow."""
        column = self.entering()
        while column is not None:
            self.exchange(self.leaving(column), column)
            column = self.entering()

    def entering(self):
        """Return the column of a quantity that makes the sum grow, or None."""
        last = self.rows[-1]
        growing = [(quantity, column) for column, quantity in enumerate(self.absent) if last[column] < 0]
        if len(growing) == 0:
            return None
        # The first quantity, here and in leaving (Bland's rule): otherwise exchanges might go round for ever.
        return min(growing)[1]

    def leaving(self, column):
        """Return the row whose quantity is the first to be used up as the column's quantity grows."""
        found = None
        for at, quantity in enumerate(self.present):
            row = self.rows[at]
            if row[column] <= 0:
                continue
            if found is None:
                found = at
                continue
            other = self.rows[found]
            if (row[-1] * other[column], quantity) < (other[-1] * row[column], self.present[found]):
                found = at
        return found

    def exchange(self, at, column):
        """Give the row's quantity the column, and the column's quantity the row."""
        pivot = self.rows[at]
        rows = []
        for row in self.rows:
            # Unit divides each of these: all numbers are determinants of the numbers of the beginning.
            made = [(one * pivot[column] - row[column] * two) // self.unit for one, two in zip(row, pivot)]
            made[column] = -row[column]
            rows.append(made)
        rows[at] = list(pivot)
        rows[at][column] = self.unit
        self.rows = rows
        self.unit = pivot[column]
        quantity = self.absent[column]
        self.absent[column] = self.present[at]
        self.present[at] = quantity

    def amounts(self):
        """Return the amounts, times unit."""
        return self.placed(self.present, [row[-1] for row in self.rows])[:len(self.absent)]

    def prices(self):
        """Return how much the sum grows with the limit of each row, times unit."""
        return self.placed(self.absent, self.rows[-1])[len(self.absent):]

    def placed(self, quantities, numbers):
        """Return what all quantities have, of which these have these numbers and the others 0."""
        found = [0] * (len(self.absent) + len(self.present))
        for quantity, number in zip(quantities, numbers):
            found[quantity] = number
        return found


def _solved(source, changes, level):
    """Return the solved tableau of a source's rows, its amounts times source.whole and the level's under.

    First each text has a row of its own, for its share, and then each readable text of the changes has one.
    """
    texts = source.texts()
    readable = readable_of(texts, changes)
    own = [[int(text == other) for other in texts] for text in texts]
    shared = [[int(told in readable[text]) for text in texts] for told in changes.readable()]
    limits = [source.weight_of(text) * level.under for text in texts]
    tableau = Tableau(own + shared, limits + [level.over * source.whole] * len(shared))
    tableau.solve()
    return tableau


def worth(source, changes, level):
    """Return the greatest sum that a row has."""
    return row_sum(best_row(source, changes, level))


def best_row(source, changes, level):
    """Return a row with the greatest sum."""
    most = capped(level)
    tableau = _solved(source, changes, most)
    whole = tableau.unit * source.whole * most.under
    shares = [Share(amount, whole) for amount in tableau.amounts()]
    return tuple(zip(source.texts(), shares))


def prices(source, changes, level):
    """Return prices with the least cost."""
    tableau = _solved(source, changes, capped(level))
    shares = [Share(price, tableau.unit) for price in tableau.prices()]
    texts = source.texts()
    return tuple(zip(texts, shares)), tuple(zip(changes.readable(), shares[len(texts):]))


def row_fault(source, changes, level, row):
    """Return what is wrong with a row, and at which text, or None."""
    readable = readable_of(source.texts(), changes)
    shares = {text: share for text, share in row}
    for text in shares:
        if shares[text].is_below(Share(0, 1)) or source.share_of(text).is_below(shares[text]):
            return "share", text
    most = capped(level)
    for told in changes.readable():
        together = sum_of([shares[text] for text in readable if told in readable[text]])
        if most.is_below(together):
            return "level", told
    return None


def price_fault(source, changes, paper):
    """Return what is wrong with prices, and at which text, or None."""
    readable = readable_of(source.texts(), changes)
    for text, share in [*paper[0], *paper[1]]:
        if share.is_below(Share(0, 1)):
            return "below", text
    own = {text: share for text, share in paper[0]}
    shared = {text: share for text, share in paper[1]}
    for text in readable:
        together = own[text] + sum_of([shared[told] for told in readable[text]])
        if together.is_below(Share(1, 1)):
            return "short", text
    return None


def cost(source, level, paper):
    """Return what prices cost."""
    own = sum_of([source.share_of(text) * share for text, share in paper[0]])
    return own + capped(level) * row_sum(paper[1])


def row_sum(row):
    """Return the sum of the shares of a row."""
    return sum_of([share for text, share in row])
