"""Contests between a row of powers and others: either a mean of the others is as great, or a direction parts them.

Whoever picks one of the other rows by chances, and whoever picks a size by chances, play a game for the power that the
picked row has more there than the first one. Its solution is found by pivoting a table of integers that all stand above
one number; the entries are lifted above 0, so that it can begin with all variables at 0.
"""


class Contest:
    """The tops, one for each other row, make the mean that is as great; if there is none, the counts are a direction.

    Both are COUNTS that tell how the chances stand to each other.
    """

    def __init__(self, row, others):
        self.tops = tops_of_one(row, others)
        self.counts = None
        if self.tops is None:
            self._settle(row, others)

    def _settle(self, row, others):
        lift = 1 + max(row)
        table = PivotTable([[high - low + lift for high, low in zip(other, row)] for other in others])
        table.solve()
        # The game is worth the bottom by the gain, less the lift.
        if lift * table.gain() <= table.bottom:
            self.tops = table.chances_of_rows()
        else:
            self.counts = table.chances_of_columns()


def tops_of_one(row, others):
    """The tops if one of the other rows alone is as great, otherwise None."""
    for at, other in enumerate(others):
        if all([high >= low for high, low in zip(other, row)]):
            return [1 if position == at else 0 for position in range(len(others))]
    return None


class PivotTable:
    """Makes the sum of all columns' variables as great as rows of positive integers let it be: each row at most 1."""

    def __init__(self, rows):
        many = len(rows[0])
        self.bottom = 1
        self.lines = [row + [1] for row in rows] + [[-1] * many + [0]]
        # The variables: first those of the columns, then what each row leaves free.
        self.columns = list(range(many))
        self.heads = [many + at for at in range(len(rows))]

    def gain(self):
        return self.lines[-1][-1]

    def solve(self):
        column = self._entering()
        while column is not None:
            self._pivot(self._leaving(column), column)
            column = self._entering()

    def chances_of_columns(self):
        chances = [0] * len(self.columns)
        for at, head in enumerate(self.heads):
            if head < len(chances):
                chances[head] = self.lines[at][-1]
        return chances

    def chances_of_rows(self):
        many = len(self.columns)
        chances = [0] * len(self.heads)
        for at, variable in enumerate(self.columns):
            if variable >= many:
                chances[variable - many] = self.lines[-1][at]
        return chances

    def _entering(self):
        # Of several variables always the first one is taken, here and below: so no table comes twice.
        able = [(variable, at) for at, variable in enumerate(self.columns) if self.lines[-1][at] < 0]
        return min(able)[1] if len(able) > 0 else None

    def _leaving(self, column):
        best = None
        for at, head in enumerate(self.heads):
            line = self.lines[at]
            if line[column] > 0:
                # The entries are compared as fractions of what stands in the column.
                least = 0 if best is None else line[-1] * self.lines[best][column] - self.lines[best][-1] * line[column]
                if best is None or least < 0 or (least == 0 and head < self.heads[best]):
                    best = at
        return best

    def _pivot(self, at, column):
        pivot = self.lines[at][column]
        self.lines = [self._line_behind(line, other == at, self.lines[at], column)
                      for other, line in enumerate(self.lines)]
        self.bottom = pivot
        self.heads[at], self.columns[column] = self.columns[column], self.heads[at]

    def _line_behind(self, line, is_own, pivot_line, column):
        """What becomes of a line by a pivot, its own line being the pivot's."""
        if is_own:
            return line[:column] + [self.bottom] + line[column + 1:]
        pivot, times = pivot_line[column], line[column]
        made = [(entry * pivot - times * below) // self.bottom for entry, below in zip(line, pivot_line)]
        made[column] = -times
        return made
