"""Rows of whole numbers, put so that it can be seen which numbers bring all of them to 0."""

from dropsums.wholes import common_divisor, without_divisor


def reduced(many, rows):
    """Rows that are made of the given ones, and the column by which each leads: there all others have 0."""
    left = [list(row) for row in rows]
    leads = []
    for column in range(many):
        place = first_with(left, len(leads), column)
        if place is None:
            continue
        lead = left.pop(place)
        left = [without_column(row, lead, column) for row in left]
        left.insert(len(leads), lead)
        leads.append(column)
    return (left[:len(leads)], leads)


def first_with(rows, start, column):
    """The first row from start on that has something at the column, or None."""
    for place in range(start, len(rows)):
        if rows[place][column] != 0:
            return place
    return None


def without_column(row, lead, column):
    """The row, the leading one added or taken away until there is 0 at the column."""
    size = lead[column]
    times = row[column]
    # Else the numbers would grow with each column.
    return without_divisor([size * one - times * other for one, other in zip(row, lead)])


def nought_maker(many, rows, leads, free):
    """Numbers that bring all reduced rows to 0, that of the free column from 1 on, of others that lead none 0."""
    bottom = 1
    for row, lead in zip(rows, leads):
        bottom = common_multiple(bottom, row[lead])
    numbers = [0 for column in range(many)]
    numbers[free] = bottom
    for row, lead in zip(rows, leads):
        numbers[lead] = -row[free] * (bottom // row[lead])
    return tuple(without_divisor(numbers))


def common_multiple(one, other):
    """The least whole number above 0 that both divide."""
    return abs(one * other) // common_divisor([one, other])
