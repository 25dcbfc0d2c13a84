"""The kinds of papers and of their trees, and what more is known within a tree."""

from dropsums.asks import pieces_of
from dropsums.forms import and_more, form_of_drops, form_of_number, less
from dropsums.pots import RULES, SORTS, TAKES, is_sort
from dropsums.weights import is_weights
from dropsums.wholes import are_counts, are_wholes, is_whole, is_whole_within

# Where the parts of a paper stand in its tuple; in a tree's the first part is its word.
KEPTS = 0
HEIGHTS = 1
TREE = 2

MOST_KEPTS = 8
MOST_TREES = 1000
MOST_WITHIN = 40


def is_paper(pot, ask, thing):
    """Whether it is of the right shape for the pot and the ask."""
    if not isinstance(thing, tuple) or len(thing) != 3:
        return False
    many = len(pot[SORTS])
    return (
        are_kepts(many, thing[KEPTS])
        and are_counts(many, thing[HEIGHTS])
        and is_whole_tree(pot, pieces_of(pot, ask), thing[TREE])
    )


def are_kepts(many, thing):
    if not isinstance(thing, tuple) or len(thing) > MOST_KEPTS:
        return False
    return all([are_wholes(many, kept) for kept in thing])


def is_whole_tree(pot, pieces, thing):
    """Whether it and all within it are trees, not too many and not too deep."""
    # Not by calls within calls: the same thing may stand in many places, and a count stops it soon enough.
    left = [(thing, 1)]
    count = 0
    while len(left) > 0:
        pair = left.pop()
        count += 1
        if count > MOST_TREES or pair[1] > MOST_WITHIN or not is_tree(pot, pieces, pair[0]):
            return False
        left.extend([(tree, pair[1] + 1) for tree in trees_within(pair[0])])
    return True


def is_tree(pot, pieces, thing):
    """Whether it is a tree, whatever stands for the trees within it."""
    if not isinstance(thing, tuple) or len(thing) < 2:
        return False
    if thing[0] == "lacks":
        return len(thing) == 3 and is_lacks(pot, thing[1], thing[2])
    if thing[0] == "cut":
        return len(thing) == 5 and is_sort(len(pot[SORTS]), thing[1]) and is_whole(thing[2]) and thing[2] >= 0
    if thing[0] == "shut":
        return len(thing) == 2 and is_weights(thing[1])
    return thing[0] == "right" and len(thing) == 3 and is_right(pieces, thing[1], thing[2])


def is_lacks(pot, rule, trees):
    if not is_whole_within(rule, 0, len(pot[RULES]) - 1) or not isinstance(trees, tuple):
        return False
    return len(trees) == len(sorts_taken(pot, rule))


def is_right(pieces, piece, grounds):
    if not is_whole_within(piece, 0, len(pieces) - 1) or not isinstance(grounds, tuple):
        return False
    return len(grounds) == len(pieces[piece]) and all([is_weights(ground) for ground in grounds])


def trees_within(tree):
    """The trees straight within a tree, as they come; leaves have none."""
    if tree[0] == "lacks":
        return tree[2]
    if tree[0] == "cut":
        return tree[3:]
    return ()


def sorts_taken(pot, rule):
    """The sorts of which the rule takes, rising."""
    return [sort for sort, taken in enumerate(pot[RULES][rule][TAKES]) if taken > 0]


def forms_within(pot, tree):
    """For each tree straight within a tree the form that is a fact for it besides."""
    if tree[0] == "lacks":
        return lacking_forms(pot, tree[1])
    if tree[0] == "cut":
        return cut_forms(pot, tree[1], tree[2])
    return []


def lacking_forms(pot, rule):
    """For each sort of which the rule takes: it lacks drops of this sort."""
    takes = pot[RULES][rule][TAKES]
    return [at_most(pot, sort, takes[sort] - 1) for sort in sorts_taken(pot, rule)]


def cut_forms(pot, sort, number):
    """The sort has at most so many drops; it has more."""
    return [at_most(pot, sort, number), at_least(pot, sort, number + 1)]


def at_most(pot, sort, number):
    """The form that holds where the sort has at most so many drops."""
    return less(form_of_number(pot, number), form_of_drops(pot, sort))


def at_least(pot, sort, number):
    """The form that holds where the sort has at least so many drops."""
    return and_more(form_of_drops(pot, sort), -number)
