"""A table of a problem's rows, turned until it shows numbers that meet them, or weights that bear a no.

There is an unknown for each sought number, from 0 on, and behind them one for each row of the problem: what that
row comes to. A row of the table says of its unknown: bottom times it is each number of the row times the unknown
of that column, added, and the row's last number. So where the columns' unknowns are 0, the last numbers over bottom
are what the rows' unknowns come to. Sought numbers may be below 0, what the problem's rows come to may not.
"""

from dropsums.wholes import common_divisor

# The quick choice of a turn may come round to where it was; the plain one, by the least unknown, never does.
QUICK_TURNS = 200


class Tableau:
    """The table; all its numbers stand over one bottom, from 1 on."""

    def __init__(self, many, problem):
        self.many = many
        self.bottom = 1
        self.rows = [list(by) + [plus] for by, plus in problem]
        self.row_unknowns = [many + number for number in range(len(problem))]
        self.column_unknowns = list(range(many))
        self.turns = 0

    def low_row(self):
        """A row that is below 0 and may not be, or None."""
        low = [row for row in range(len(self.rows)) if self.is_low(row)]
        if self.turns < QUICK_TURNS:
            return min(low, key=lambda row: self.rows[row][-1], default=None)
        return min(low, key=lambda row: self.row_unknowns[row], default=None)

    def is_low(self, row):
        return self.row_unknowns[row] >= self.many and self.rows[row][-1] < 0

    def column_for(self, row):
        """A column whose unknown, changed as it may be, raises the row; or None."""
        numbers = self.rows[row]
        raising = [column for column in range(self.many) if self.is_sought(column) and numbers[column] != 0]
        # What is sought goes first: once in a row it never comes back to a column.
        if len(raising) == 0:
            raising = [column for column in range(self.many) if not self.is_sought(column) and numbers[column] > 0]
        if self.turns < QUICK_TURNS:
            return max(raising, key=lambda column: abs(numbers[column]), default=None)
        return min(raising, key=lambda column: self.column_unknowns[column], default=None)

    def is_sought(self, column):
        return self.column_unknowns[column] < self.many

    def turn(self, row, column):
        """The unknowns of the row and of the column change places."""
        pivot = self.rows[row]
        sign = 1 if pivot[column] > 0 else -1
        rows = [self.turned(numbers, pivot, column, sign) for numbers in self.rows]
        rows[row] = [-sign * number for number in pivot]
        rows[row][column] = sign * self.bottom
        self.rows = rows
        self.bottom = sign * pivot[column]
        unknown = self.row_unknowns[row]
        self.row_unknowns[row] = self.column_unknowns[column]
        self.column_unknowns[column] = unknown
        self.turns += 1

    def turned(self, numbers, pivot, column, sign):
        """Another row, the pivot row's word for the column's unknown put into it."""
        size = sign * pivot[column]
        times = sign * numbers[column]
        # The numbers of a table are minors of the problem's, so the old bottom divides without a rest.
        row = [(size * one - times * other) // self.bottom for one, other in zip(numbers, pivot)]
        row[column] = times
        return row

    def met(self):
        """The sought numbers, as (tops, bottom), where no row is low."""
        tops = [0 for column in range(self.many)]
        for unknown, numbers in zip(self.row_unknowns, self.rows):
            if unknown < self.many:
                tops[unknown] = numbers[-1]
        divisor = common_divisor([self.bottom] + tops)
        return (tuple([top // divisor for top in tops]), self.bottom // divisor)

    def borne(self, row):
        """The weights that a low row shows which no column can raise."""
        # Each of its numbers is 0 or less, so the row and these so many times, added, come to its last number.
        pairs = [(self.row_unknowns[row] - self.many, self.bottom)]
        for unknown, number in zip(self.column_unknowns, self.rows[row]):
            if number != 0:
                pairs.append((unknown - self.many, -number))
        divisor = common_divisor([times for number, times in pairs])
        return tuple([(number, times // divisor) for number, times in sorted(pairs)])
