"""Forms made and added: numbers for the inputs, numbers for the sorts, and one number more."""

from dropsums.pots import INPUTS, SORTS

# Where the parts of a form stand in its tuple.
BY_INPUTS = 0
BY_SORTS = 1
PLUS = 2


def form_of_number(pot, number):
    """The form that comes to the number, whatever the amounts and the stand."""
    return (noughts(pot[INPUTS]), noughts(pot[SORTS]), number)


def form_of_amount(pot, place):
    """The form of the amount of the input at that place."""
    return (one_at(pot[INPUTS], place), noughts(pot[SORTS]), 0)


def form_of_drops(pot, sort):
    """The form of the sort's drops."""
    return (noughts(pot[INPUTS]), one_at(pot[SORTS], sort), 0)


def noughts(things):
    return tuple([0 for thing in things])


def one_at(things, place):
    return tuple([1 if number == place else 0 for number in range(len(things))])


def added(one, other):
    return (
        tuple([a + b for a, b in zip(one[BY_INPUTS], other[BY_INPUTS])]),
        tuple([a + b for a, b in zip(one[BY_SORTS], other[BY_SORTS])]),
        one[PLUS] + other[PLUS],
    )


def so_often(form, times):
    """All the form's numbers so many times."""
    return (
        tuple([times * number for number in form[BY_INPUTS]]),
        tuple([times * number for number in form[BY_SORTS]]),
        times * form[PLUS],
    )


def less(one, other):
    return added(one, so_often(other, -1))


def and_more(form, number):
    return (form[BY_INPUTS], form[BY_SORTS], form[PLUS] + number)
