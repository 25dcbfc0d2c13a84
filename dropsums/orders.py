"""Orders of rules, walked from a stand."""

from dropsums.errors import NoStep
from dropsums.steps import can_go, gone, rules_there


def walked(pot, stand, order):
    """The stand to which the order leads, or NoStep."""
    return stands_on(pot, stand, order)[-1]


def stands_on(pot, stand, order):
    """All stands on the order's way, the first one first, or NoStep."""
    stands = [stand]
    for place, rule in enumerate(order):
        # NoStep of the step itself would not know the place.
        if not can_go(pot, stands[-1], rule):
            raise NoStep(place)
        stands.append(gone(pot, stands[-1], rule))
    return stands


def chosen(pot, stand, numbers, most):
    """The order, and its stand, that the numbers choose: at most so many rules, fewer where the stand ends."""
    order = []
    there = stand
    free = rules_there(pot, there)
    while len(free) > 0 and len(order) < most:
        # One number is used for each rule done, so the rules done so far count the numbers used.
        number = numbers[len(order) % len(numbers)]
        rule = free[number % len(free)]
        order.append(rule)
        there = gone(pot, there, rule)
        free = rules_there(pot, there)
    return (tuple(order), there)
