"""What stays, whichever rules go: counts that no rule changes."""

from dropsums.elimination import nought_maker, reduced
from dropsums.pots import GIVES, RULES, SORTS, TAKES
from dropsums.wholes import times_added


def count_of(kept, stand):
    """Each sort's drops times its number, added."""
    return times_added(kept, stand)


def stays(pot, kept):
    return first_change(pot, kept) is None


def first_change(pot, kept):
    """The first rule that changes the count, or None."""
    for number, rule in enumerate(pot[RULES]):
        if count_of(kept, rule[TAKES]) != count_of(kept, rule[GIVES]):
            return number
    return None


def all_kept(pot):
    """A list of what stays, none made of the others, of which all that stays is made."""
    many = len(pot[SORTS])
    solved = reduced(many, [change_of(rule) for rule in pot[RULES]])
    return [nought_maker(many, solved[0], solved[1], sort) for sort in range(many) if sort not in solved[1]]


def change_of(rule):
    """What the rule gives of each sort, less what it takes."""
    return [given - taken for taken, given in zip(rule[TAKES], rule[GIVES])]


def made_of(kepts, kept):
    """(bottom, parts): the kepts, so many times each, added, are the one kept bottom times; or None."""
    many = len(kepts) + 1
    # One row for each sort: what each kept has for it, and last what the sought one has.
    rows = [[one[sort] for one in kepts] + [number] for sort, number in enumerate(kept)]
    solved = reduced(many, rows)
    if many - 1 in solved[1]:
        return None
    numbers = nought_maker(many, solved[0], solved[1], many - 1)
    return (numbers[-1], tuple([-number for number in numbers[:-1]]))
