"""Lesser pots, all gone through, and the fewest rules with which one keeps an ask."""

from dropsums.finding import paper_for
from dropsums.forms import noughts
from dropsums.pots import LETTERS
from dropsums.wholes import counts_together

MOST_ON_A_SIDE = 2
# Of more inputs there are too many pairs of rules to go through.
MOST_RULES_OF_ONE_INPUT = 2
MOST_RULES_OF_MORE = 1


def lesser(many, rules):
    """The lesser pots with so many inputs, one or two, and so many rules, none to two."""
    if rules == 0:
        return [lesser_pot(many, ())]
    single = lesser_rules(many + 1)
    if rules == 1:
        return [lesser_pot(many, (rule,)) for rule in single]
    pots = []
    for place, first in enumerate(single):
        pots.extend([lesser_pot(many, (first, second)) for second in single[place + 1:]])
    return pots


def lesser_pot(many, rules):
    """The pot with these rules whose last sort is the answer's, and all others the inputs'."""
    sorts = tuple(LETTERS[:many + 1])
    return (sorts, rules, tuple(range(many)), noughts(sorts), many)


def lesser_rules(many):
    """All rules of so many sorts with at most two drops on each side, takes rising, then gives."""
    sides = []
    for total in range(MOST_ON_A_SIDE + 1):
        sides.extend(counts_together(many, total))
    sides = sorted(sides)
    rules = []
    # The first side has no drops at all: nothing can be taken by it.
    for takes in sides[1:]:
        rules.extend([(takes, gives) for gives in sides if gives != takes])
    return rules


def fewest(many, ask):
    """("pot", pot, paper), a lesser pot of the fewest rules that has a plain paper for the ask; or ("none",)."""
    most = MOST_RULES_OF_ONE_INPUT if many == 1 else MOST_RULES_OF_MORE
    for rules in range(most + 1):
        for pot in lesser(many, rules):
            paper = paper_for(pot, ask)
            if paper is not None:
                return ("pot", pot, paper)
    return ("none",)
