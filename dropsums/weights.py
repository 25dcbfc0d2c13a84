"""The kind of weights: which rows or forms are added, and how many times each."""

from dropsums.wholes import is_whole


def is_weights(thing):
    """Whether it is a tuple of (number, times), from 0 on and from 1 on, the numbers rising."""
    if not isinstance(thing, tuple) or not all([is_weight(pair) for pair in thing]):
        return False
    numbers = [pair[0] for pair in thing]
    return all([one < other for one, other in zip(numbers, numbers[1:])])


def is_weight(thing):
    if not isinstance(thing, tuple) or len(thing) != 2:
        return False
    return is_whole(thing[0]) and thing[0] >= 0 and is_whole(thing[1]) and thing[1] >= 1
