"""Which rules can go at a stand, and where they lead."""

from dropsums.errors import NoStep
from dropsums.pots import GIVES, RULES, TAKES


def can_go(pot, stand, rule):
    """Whether the rule can go there; a number that is no rule's can't."""
    # Below 0 Python would count from the end.
    if not 0 <= rule < len(pot[RULES]):
        return False
    takes = pot[RULES][rule][TAKES]
    return all([there >= taken for there, taken in zip(stand, takes)])


def gone(pot, stand, rule):
    """The stand to which the rule leads, or NoStep."""
    if not can_go(pot, stand, rule):
        raise NoStep(0)
    takes = pot[RULES][rule][TAKES]
    gives = pot[RULES][rule][GIVES]
    return tuple([there - taken + given for there, taken, given in zip(stand, takes, gives)])


def rules_there(pot, stand):
    """The rules that can go there, rising."""
    return [rule for rule in range(len(pot[RULES])) if can_go(pot, stand, rule)]


def has_ended(pot, stand):
    return len(rules_there(pot, stand)) == 0
