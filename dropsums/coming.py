"""All that comes from a stand, and from where something can still come."""

from dropsums.steps import gone, has_ended, rules_there


def all_from(pot, stand, most):
    """All stands that come from the stand, as they come; None where they are more than most."""
    orders = orders_by_stand(pot, stand, most)
    return None if orders is None else list(orders)


def orders_from(pot, stand, most):
    """To each of all_from's stands the order by which it came first; None where they are more than most."""
    orders = orders_by_stand(pot, stand, most)
    return None if orders is None else list(orders.values())


def orders_by_stand(pot, stand, most):
    """Each stand that comes, as they come, and the order by which it came first; None beyond most."""
    orders = {stand: ()}
    stands = [stand]
    place = 0
    while place < len(stands):
        there = stands[place]
        place += 1
        for rule in rules_there(pot, there):
            led = gone(pot, there, rule)
            if led not in orders:
                orders[led] = orders[there] + (rule,)
                stands.append(led)
        # Looked at here, for else a pot that grows would never come to an end.
        if len(stands) > most:
            return None
    return orders


def ended_of(pot, stands):
    """Those of the stands that have ended, in their order."""
    return [stand for stand in stands if has_ended(pot, stand)]


def can_come(pot, stands, goals):
    """The stands of a closed list from which one of the goals in it can still come, rising."""
    sources = sources_by_stand(pot, stands)
    found = {}
    left = [goal for goal in goals if goal in sources]
    while len(left) > 0:
        stand = left.pop()
        if stand not in found:
            found[stand] = True
            left.extend(sources[stand])
    return sorted(found)


def sources_by_stand(pot, stands):
    """For each of the stands those of them from which a rule leads to it."""
    sources = {}
    for stand in stands:
        sources[stand] = []
    for stand in list(sources):
        for rule in rules_there(pot, stand):
            led = gone(pot, stand, rule)
            if led in sources:
                sources[led].append(stand)
    return sources
