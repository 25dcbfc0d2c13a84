"""Whole numbers, and tuples of them."""


def is_whole(thing):
    # Python counts True as 1; here a truth is no number.
    return isinstance(thing, int) and not isinstance(thing, bool)


def is_whole_within(thing, low, high):
    return is_whole(thing) and low <= thing <= high


def are_wholes(many, thing):
    """Whether it is a tuple of so many whole numbers."""
    if not isinstance(thing, tuple) or len(thing) != many:
        return False
    return all([is_whole(number) for number in thing])


def are_counts(many, thing):
    """Whether it is a tuple of so many whole numbers from 0 on."""
    return are_wholes(many, thing) and all([count >= 0 for count in thing])


def are_counts_to(high, many, thing):
    """Whether it is a tuple of so many whole numbers from 0 to high."""
    return are_counts(many, thing) and all([count <= high for count in thing])


def common_divisor(numbers):
    """The greatest whole number that divides all of them; 0 where all are 0, or there are none."""
    divisor = 0
    for number in numbers:
        other = abs(number)
        while other != 0:
            rest = divisor % other
            divisor = other
            other = rest
    return divisor


def without_divisor(numbers):
    """The numbers, what divides all of them taken out; a list."""
    divisor = common_divisor(numbers)
    return [number // divisor if divisor > 0 else 0 for number in numbers]


def times_added(ones, others):
    """Each of the ones times its other, added."""
    return sum([one * other for one, other in zip(ones, others)])


def counts_together(many, total):
    """All tuples of so many whole numbers from 0 on that come to the total together, rising."""
    if many == 0:
        return [()] if total == 0 else []
    tuples = []
    for first in range(total + 1):
        tuples.extend([(first,) + rest for rest in counts_together(many - 1, total - first)])
    return tuples
