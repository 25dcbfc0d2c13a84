"""The small checker of papers: it seeks nothing, and what it lets by is so."""

from dropsums.asks import pieces_of
from dropsums.errors import NoPaper
from dropsums.facts import contrary, facts_of, shuts
from dropsums.falling import first_not_lowered
from dropsums.papers import HEIGHTS, KEPTS, TREE
from dropsums.papers import forms_within, is_paper, trees_within
from dropsums.staying import stays


def lets_paper(pot, ask, thing):
    """True where the thing is a paper that shows that the pot keeps the ask; else NoPaper."""
    if not is_paper(pot, ask, thing):
        raise NoPaper("shape", 0)
    for number, kept in enumerate(thing[KEPTS]):
        if not stays(pot, kept):
            raise NoPaper("kept", number)
    rule = first_not_lowered(pot, thing[HEIGHTS])
    if rule is not None:
        raise NoPaper("height", rule)
    leaf = first_open_leaf(pot, pieces_of(pot, ask), facts_of(pot, thing[KEPTS]), thing[TREE])
    if leaf is not None:
        raise NoPaper("leaf", leaf)
    return True


def first_open_leaf(pot, pieces, facts, tree):
    """The first leaf, counted as they come, whose weights don't shut what they ought to; or None."""
    left = [(tree, facts)]
    count = 0
    while len(left) > 0:
        pair = left.pop()
        within = under(pot, pair[0], pair[1])
        # The last one is taken next, so the first one goes last.
        left.extend(list(reversed(within)))
        if len(within) == 0:
            if not is_closed(pieces, pair[1], pair[0]):
                return count
            count += 1
    return None


def under(pot, tree, facts):
    """The trees straight within a tree, each with its facts."""
    return [(inner, facts + [form]) for inner, form in zip(trees_within(tree), forms_within(pot, tree))]


def is_closed(pieces, facts, leaf):
    """Whether the leaf's weights shut what they ought to."""
    if leaf[0] == "shut":
        return shuts(facts, leaf[1])
    forms = pieces[leaf[1]]
    return all([shuts(facts + [contrary(form)], ground) for form, ground in zip(forms, leaf[2])])
