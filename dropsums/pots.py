"""The kinds of pots, stands and amounts, and what a pot says of itself."""

from dropsums.wholes import are_counts, are_counts_to, is_whole_within

# Where the parts of a pot and of a rule stand in their tuples.
SORTS = 0
RULES = 1
INPUTS = 2
BEGIN = 3
ANSWER = 4
TAKES = 0
GIVES = 1

MOST_SORTS = 8
MOST_RULES = 8
MOST_INPUTS = 3
MOST_BEGIN = 99
MOST_DROPS = 9

LETTERS = "abcdefghijklmnopqrstuvwxyz"
MOST_LETTERS = 8
# As names these words could not be told from the words of a pot's lines.
NO_NAMES = ("sorts", "begin", "in", "out", "rule", "to")


def is_name(thing):
    if not isinstance(thing, str) or not 1 <= len(thing) <= MOST_LETTERS:
        return False
    return thing not in NO_NAMES and all([sign in LETTERS for sign in thing])


def is_pot(thing):
    if not isinstance(thing, tuple) or len(thing) != 5 or not are_sorts(thing[SORTS]):
        return False
    many = len(thing[SORTS])
    return (
        are_rules(many, thing[RULES])
        and are_inputs(many, thing[INPUTS])
        and are_counts_to(MOST_BEGIN, many, thing[BEGIN])
        and is_sort(many, thing[ANSWER])
    )


def is_stand(many, thing):
    return are_counts(many, thing)


def is_amounts(many, thing):
    return are_counts(many, thing)


def are_sorts(thing):
    if not isinstance(thing, tuple) or not 1 <= len(thing) <= MOST_SORTS:
        return False
    return all([is_name(name) for name in thing]) and are_unlike(thing)


def are_rules(many, thing):
    if not isinstance(thing, tuple) or len(thing) > MOST_RULES:
        return False
    return all([is_rule(many, rule) for rule in thing])


def is_rule(many, thing):
    if not isinstance(thing, tuple) or len(thing) != 2:
        return False
    if not all([are_counts_to(MOST_DROPS, many, side) for side in thing]):
        return False
    return any([count > 0 for count in thing[TAKES]]) and thing[TAKES] != thing[GIVES]


def are_inputs(many, thing):
    if not isinstance(thing, tuple) or len(thing) > MOST_INPUTS:
        return False
    return all([is_sort(many, sort) for sort in thing]) and are_unlike(thing)


def is_sort(many, thing):
    return is_whole_within(thing, 0, many - 1)


def are_unlike(things):
    return len(set(things)) == len(things)


def sort_called(pot, name):
    """The number of the sort of that name, or None."""
    if name not in pot[SORTS]:
        return None
    return pot[SORTS].index(name)


def inputs_of(pot):
    """How many inputs there are."""
    return len(pot[INPUTS])


def first_taker(pot):
    """The first rule that takes of the answer's sort, or None."""
    for number, rule in enumerate(pot[RULES]):
        # A rule that gives the answer's drops again takes them all the same: they have to be there.
        if rule[TAKES][pot[ANSWER]] > 0:
            return number
    return None


def beginning(pot, amounts):
    """The stand begin, to each input's sort its amount added."""
    counts = list(pot[BEGIN])
    for sort, amount in zip(pot[INPUTS], amounts):
        counts[sort] += amount
    return tuple(counts)
