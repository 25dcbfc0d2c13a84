"""What forms come to, forms weighed, and the facts that hold wherever a pot may come."""

from dropsums.forms import BY_INPUTS, BY_SORTS, PLUS
from dropsums.forms import added, and_more, form_of_amount, form_of_drops, so_often
from dropsums.pots import BEGIN, INPUTS, SORTS
from dropsums.weights import is_weights
from dropsums.wholes import times_added


def form_at(form, amounts, stand):
    """What the form comes to by these amounts and this stand."""
    return times_added(form[BY_INPUTS], amounts) + times_added(form[BY_SORTS], stand) + form[PLUS]


def holds(form, amounts, stand):
    return form_at(form, amounts, stand) >= 0


def contrary(form):
    """The form that holds just where this one doesn't, whole numbers given."""
    return and_more(so_often(form, -1), -1)


def form_weighed(forms, weights):
    """The forms at the weights' numbers, each so many times, added."""
    total = so_often(forms[0], 0)
    for number, times in weights:
        total = added(total, so_often(forms[number], times))
    return total


def shuts(forms, thing):
    """Whether the thing is weights by which the forms come to nothing but a number below 0."""
    if not is_weights(thing) or any([number >= len(forms) for number, times in thing]):
        return False
    # Void weights shut nothing, and there may be no form to weigh.
    if len(thing) == 0:
        return False
    form = form_weighed(forms, thing)
    return all([number == 0 for number in form[BY_INPUTS] + form[BY_SORTS]]) and form[PLUS] < 0


def facts_of(pot, kepts):
    """The forms that hold for each beginning and each stand that comes from it, where the kepts stay."""
    facts = [form_of_amount(pot, place) for place in range(len(pot[INPUTS]))]
    facts.extend([form_of_drops(pot, sort) for sort in range(len(pot[SORTS]))])
    for kept in kepts:
        form = form_of_kept(pot, kept)
        facts.extend([form, so_often(form, -1)])
    return facts


def form_of_kept(pot, kept):
    """The kept's count at the stand, less its count at the beginning."""
    by_inputs = tuple([-kept[sort] for sort in pot[INPUTS]])
    return (by_inputs, tuple(kept), -times_added(kept, pot[BEGIN]))
