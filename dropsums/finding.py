"""Papers found: the plain tree of a pot and an ask, where nothing in it is left open."""

from dropsums.asks import pieces_of
from dropsums.facts import contrary, facts_of
from dropsums.falling import falls
from dropsums.forms import BY_INPUTS, BY_SORTS, PLUS
from dropsums.papers import at_least, at_most, cut_forms, lacking_forms
from dropsums.pots import INPUTS, RULES, SORTS
from dropsums.staying import all_kept
from dropsums.weighing import meets, weighed

MOST_CUTS = 3
CUT_AT = 0


def paper_for(pot, ask):
    """A paper that is let by, where there is a plain one; else None."""
    fall = falls(pot)
    if fall[0] == "round":
        return None
    kepts = tuple(all_kept(pot))
    tree = plain_tree(pot, pieces_of(pot, ask), facts_of(pot, kepts), 0, 0)
    if tree is None:
        return None
    return (kepts, fall[1], tree)


def plain_tree(pot, pieces, facts, rule, cuts):
    """The plain tree from this rule on, behind so many cuts; None where something in it is left open."""
    known = Known(pot, facts)
    # What closes here closes at each end below it, too: there all these facts are known, and some more.
    leaf = leaf_for(known, pieces)
    if leaf is not None:
        return leaf
    if rule < len(pot[RULES]):
        trees = plain_trees(pot, pieces, facts, lacking_forms(pot, rule), rule + 1, cuts)
        return None if trees is None else ("lacks", rule, trees)
    sort = sort_to_cut(pot, known) if cuts < MOST_CUTS else None
    if sort is None:
        return None
    trees = plain_trees(pot, pieces, facts, cut_forms(pot, sort, CUT_AT), rule, cuts + 1)
    return None if trees is None else ("cut", sort, CUT_AT) + trees


def plain_trees(pot, pieces, facts, forms, rule, cuts):
    """A tuple of plain trees, one under each form; None where something in one is left open."""
    trees = []
    for form in forms:
        tree = plain_tree(pot, pieces, facts + [form], rule, cuts)
        if tree is None:
            return None
        trees.append(tree)
    return tuple(trees)


def leaf_for(known, pieces):
    """A leaf that closes here, or None."""
    if known.no is not None:
        return ("shut", known.no)
    for number, piece in enumerate(pieces):
        grounds = grounds_for(known, piece)
        if grounds is not None:
            return ("right", number, grounds)
    return None


def grounds_for(known, piece):
    """Weights for each form of the piece by which it is borne; None where one isn't."""
    grounds = []
    for form in piece:
        ground = known.ground_for(form)
        if ground is None:
            return None
        grounds.append(ground)
    return tuple(grounds)


def sort_to_cut(pot, known):
    """The first sort of which there is at most one drop, and may be none, and may be one; or None."""
    for sort in range(len(pot[SORTS])):
        none_or_one = known.ground_for(at_most(pot, sort, 1)) is not None
        if none_or_one and known.ground_for(at_most(pot, sort, 0)) is None:
            if known.ground_for(at_least(pot, sort, 1)) is None:
                return sort
    return None


class Known:
    """Facts, and what they bear."""

    def __init__(self, pot, facts):
        self.many = len(pot[INPUTS]) + len(pot[SORTS])
        self.rows = [row_of(form) for form in facts]
        self.points = []
        self.no = self.weights_with([])

    def ground_for(self, form):
        """The weights that shut the facts and, behind them, the form's contrary; None where they don't bear it."""
        row = row_of(contrary(form))
        # A point that meets the facts and this row, too, shows without weighing that the form isn't borne.
        if any([meets([row], tops, bottom) for tops, bottom in self.points]):
            return None
        return self.weights_with([row])

    def weights_with(self, more):
        """The weights that bear a no of the facts' rows and these, or None."""
        told = weighed(self.many, self.rows + more)
        if told[0] == "weights":
            return told[1]
        self.points.append(told[1:])
        return None


def row_of(form):
    """The form as a row of a problem, by all inputs and sorts."""
    return (form[BY_INPUTS] + form[BY_SORTS], form[PLUS])
