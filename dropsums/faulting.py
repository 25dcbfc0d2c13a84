"""Faults sought from small beginnings."""

from dropsums.asks import asked
from dropsums.coming import can_come, ended_of, orders_by_stand
from dropsums.faultchecker import MOST_STANDS
from dropsums.pots import ANSWER, beginning, inputs_of
from dropsums.wholes import counts_together

MOST_TOGETHER = 4


def small_amounts(many):
    """The amounts for so many inputs that come to at most four together, by how many they are, then rising."""
    small = []
    for total in range(MOST_TOGETHER + 1):
        small.extend(counts_together(many, total))
    return small


def fault_of(pot, ask):
    """A fault, where from a small beginning a stand comes from which the answer can't come any more; else None."""
    for amounts in small_amounts(inputs_of(pot)):
        fault = fault_from(pot, amounts, asked(ask, amounts))
        if fault is not None:
            return fault
    return None


def fault_from(pot, amounts, due):
    """A fault from the beginning by these amounts; None where there is none, or too many stands come."""
    orders = orders_by_stand(pot, beginning(pot, amounts), MOST_STANDS)
    if orders is None:
        return None
    lost = lost_of(pot, list(orders), due)
    if len(lost) == 0:
        return None
    ends = ended_of(pot, lost)
    if len(ends) > 0:
        return ("wrong", amounts, orders[ends[0]])
    # Where a rule leads from a lost stand is lost, too: so no rule leads out of them.
    return ("never", amounts, orders[lost[0]], tuple(sorted(lost)))


def lost_of(pot, stands, due):
    """Those of a closed list from which no stand with the due answer can come, in their order."""
    goals = [stand for stand in stands if stand[pot[ANSWER]] == due]
    hopeful = dict([(stand, True) for stand in can_come(pot, stands, goals)])
    return [stand for stand in stands if stand not in hopeful]
