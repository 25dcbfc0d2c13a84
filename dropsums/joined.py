"""The small checker of joined papers: two papers for two pots of which one's answer is the other's input."""

from dropsums.checker import lets_paper
from dropsums.errors import NoPaper
from dropsums.pots import first_taker


def lets_joined(one, one_ask, other, other_ask, k, thing):
    """True where both papers are let by and the one pot takes none of its answer away; else NoPaper."""
    # Whichever input of the other it is, the same is looked at: k only tells where they are put together.
    if not isinstance(thing, tuple) or len(thing) != 2:
        raise NoPaper("shape", 0)
    lets_paper(one, one_ask, thing[0])
    lets_paper(other, other_ask, thing[1])
    taker = first_taker(one)
    if taker is not None:
        raise NoPaper("taken", taker)
    return True
