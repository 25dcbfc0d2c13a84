"""Pots made for asks, each with its paper."""

from dropsums.asks import BY, LINE_PLUS
from dropsums.finding import paper_for
from dropsums.potlines import read_pot

INPUT_NAMES = ("a", "b", "c")

# A drop of an input becomes drops of p and q, as many as it counts in the first line and in the second one; these meet.
# Of more one drop, n or y, says whether more p than q are gone. Of same it is y where as many of both are gone, m or n
# where one more of p or of q is; at an end half an m and half an n could not be told from a y by what stays, where one
# line is never less than the other: there level does with y and n alone.
SORTS_BEHIND = {
    "sum": ("y",),
    "part": ("p", "y"),
    "least": ("p", "q", "y"),
    "most": ("p", "q", "y"),
    "more": ("p", "q", "n", "y"),
    "level": ("p", "q", "n", "y"),
    "same": ("p", "q", "m", "n", "y"),
}
RULES_BEHIND = {
    "sum": (),
    "least": ("rule 1 p 1 q to 1 y",),
    "most": ("rule 1 p 1 q 1 y to",),
    "more": ("rule 1 p 1 n to 1 y", "rule 1 q 1 y to 1 n"),
    "level": ("rule 1 p 1 y to 1 n", "rule 1 q 1 n to 1 y"),
    "same": ("rule 1 p 1 y to 1 m", "rule 1 q 1 y to 1 n", "rule 1 q 1 m to 1 y", "rule 1 p 1 n to 1 y"),
}
# The one drop that says what is so of nothing gone.
BEGUN_BEHIND = {"more": "n", "level": "y", "same": "y"}


def made(many, ask):
    """(pot, paper): a pot with so many inputs that keeps the ask, and a paper for it."""
    pot = read_pot(lines_for(many, ask))
    return (pot, paper_for(pot, ask))


def lines_for(many, ask):
    """The lines of a pot that keeps the ask."""
    way = way_for(ask)
    inputs = list(INPUT_NAMES[:many])
    behind = SORTS_BEHIND[way[0]]
    poured = poured_by(way)
    begin = ["0" for name in inputs] + [str(begun(way, poured, name)) for name in behind]
    lines = [
        " ".join(["sorts"] + inputs + list(behind)),
        " ".join(["begin"] + begin),
        " ".join(["in"] + inputs),
        "out y",
    ]
    return lines + pouring_rules(inputs, behind, poured) + rules_behind(way)


def way_for(ask):
    """The ask itself, or level in the place of same, the line that is never less ahead."""
    if ask[0] == "same" and is_never_less(ask[1], ask[2]):
        return ("level", ask[1], ask[2])
    if ask[0] == "same" and is_never_less(ask[2], ask[1]):
        return ("level", ask[2], ask[1])
    return ask


def is_never_less(one, other):
    """Whether the one line comes to no less than the other, by whatever amounts."""
    return one[LINE_PLUS] >= other[LINE_PLUS] and all([a >= b for a, b in zip(one[BY], other[BY])])


def poured_by(way):
    """For each sort into which inputs are poured the line that tells how much."""
    if way[0] == "sum":
        return {"y": way[1]}
    if way[0] == "part":
        return {"p": way[1]}
    poured = {"p": way[1], "q": way[2]}
    if way[0] == "most":
        # The greater is what both are together, less the lesser: as often as p and q meet, one y goes.
        poured["y"] = both_added(way[1], way[2])
    return poured


def both_added(one, other):
    return (tuple([a + b for a, b in zip(one[BY], other[BY])]), one[LINE_PLUS] + other[LINE_PLUS])


def begun(way, poured, name):
    """How many drops of a sort behind the inputs there are at the beginning."""
    if name in poured:
        return poured[name][LINE_PLUS]
    return 1 if BEGUN_BEHIND.get(way[0]) == name else 0


def pouring_rules(inputs, behind, poured):
    """For each input of which something is poured the rule that pours it."""
    lines = []
    for place, name in enumerate(inputs):
        words = []
        for sort in behind:
            if sort in poured and poured[sort][BY][place] > 0:
                words.extend([str(poured[sort][BY][place]), sort])
        if len(words) > 0:
            lines.append(" ".join(["rule", "1", name, "to"] + words))
    return lines


def rules_behind(way):
    if way[0] == "part":
        return [" ".join(["rule", str(way[2]), "p", "to", "1", "y"])]
    return list(RULES_BEHIND[way[0]])
