"""Problems of rows that ought to come to 0 or more: numbers that meet them, or weights that bear a no."""

from dropsums.tableau import Tableau
from dropsums.weights import is_weights
from dropsums.wholes import times_added


def meets(problem, tops, bottom):
    """Whether the fractions tops over bottom bring each row to 0 or more."""
    if bottom < 1:
        return False
    return all([times_added(by, tops) + plus * bottom >= 0 for by, plus in problem])


def bears(problem, weights):
    """Whether the rows so weighed come to 0 at each number of by, and below 0 at plus."""
    if not is_weights(weights) or any([number >= len(problem) for number, times in weights]):
        return False
    # Void weights go here: they come to 0 at plus.
    if sum([times * problem[number][1] for number, times in weights]) >= 0:
        return False
    many = len(problem[0][0])
    return all([weighed_at(problem, weights, place) == 0 for place in range(many)])


def weighed_at(problem, weights, place):
    """What the rows so weighed come to at a place of by."""
    return sum([times * problem[number][0][place] for number, times in weights])


def weighed(many, problem):
    """("numbers", tops, bottom) that meet the problem, or ("weights", WEIGHTS) that bear a no of it."""
    table = Tableau(many, problem)
    row = table.low_row()
    while row is not None:
        column = table.column_for(row)
        if column is None:
            return ("weights", table.borne(row))
        table.turn(row, column)
        row = table.low_row()
    return ("numbers",) + table.met()
