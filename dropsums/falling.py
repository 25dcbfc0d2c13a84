"""What falls by every rule, or a round of rules that takes nothing away."""

from dropsums.pots import GIVES, RULES, SORTS, TAKES
from dropsums.weighing import weighed
from dropsums.wholes import times_added, without_divisor


def height_of(heights, stand):
    """Each sort's drops times its number, added."""
    return times_added(heights, stand)


def first_not_lowered(pot, heights):
    """The first rule that doesn't lower the height, or None."""
    for number, rule in enumerate(pot[RULES]):
        if height_of(heights, rule[GIVES]) >= height_of(heights, rule[TAKES]):
            return number
    return None


def falls(pot):
    """("falls", HEIGHTS) or ("round", ROUND): just one of both is there."""
    many = len(pot[SORTS])
    told = weighed(many, sorts_rows(many) + rules_rows(pot))
    if told[0] == "numbers":
        # Over the bottom each rule lowers the height by 1 at least; the tops alone lower it, too.
        return ("falls", tuple(without_divisor(told[1])))
    times = [0 for rule in pot[RULES]]
    # Of the sorts' rows the weights tell only what the round gives besides.
    for number, often in told[1]:
        if number >= many:
            times[number - many] = often
    return ("round", tuple(times))


def sorts_rows(many):
    """Each sort's height is 0 or more."""
    return [(tuple([1 if place == sort else 0 for place in range(many)]), 0) for sort in range(many)]


def rules_rows(pot):
    """Each rule lowers the height by 1 or more."""
    return [
        (tuple([taken - given for taken, given in zip(rule[TAKES], rule[GIVES])]), -1) for rule in pot[RULES]
    ]


def is_round(pot, times):
    """Whether the rules, each done so often and some done at all, take away nothing."""
    if all([often == 0 for often in times]):
        return False
    return all([given_in_all(pot, times, sort) >= 0 for sort in range(len(pot[SORTS]))])


def given_in_all(pot, times, sort):
    """How much more of the sort is given than taken."""
    return sum([often * (rule[GIVES][sort] - rule[TAKES][sort]) for often, rule in zip(times, pot[RULES])])
