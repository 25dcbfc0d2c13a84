"""What several tests share: pots to try things on, and wrong things to put into them."""

import copy
from fractions import Fraction

# Of two inputs the lesser, by one rule; what is left over stays.
LESSER = (("a", "b", "c"), (((1, 1, 0), (0, 0, 1)),), (0, 1), (0, 0, 0), 2)

# A half: two drops become one.
HALF = (("x", "y"), (((2, 0), (0, 1)),), (0,), (0, 0), 1)

# Three rules; the second one takes a drop of the answer's sort and gives it again.
HELPED = (
    ("from", "help", "done"),
    (((2, 0, 0), (0, 1, 0)), ((0, 1, 1), (1, 0, 1)), ((0, 0, 3), (0, 9, 0))),
    (2, 0),
    (7, 0, 99),
    2,
)

# No rules, no inputs.
STILL = (("only",), (), (), (5,), 0)

# As large as pots may be.
LARGE = (
    ("a", "bb", "ccc", "dddd", "eeeee", "ffffff", "ggggggg", "hhhhhhhh"),
    tuple(((k + 1,) * 8, (k,) * 8) for k in range(8)),
    (7, 0, 3),
    (99,) * 8,
    7,
)

POTS = (LESSER, HALF, HELPED, STILL, LARGE)

# Twice the one, once the other, and three more.
SUM = (("a", "b", "y"), (((1, 0, 0), (0, 0, 2)), ((0, 1, 0), (0, 0, 1))), (0, 1), (0, 0, 3), 2)

# Each input's drop leaves its mark and an answer; a pair of marks takes one answer away.
GREATER = (
    ("a", "b", "p", "q", "k", "y"),
    (
        ((1, 0, 0, 0, 0, 0), (0, 0, 1, 0, 0, 1)),
        ((0, 1, 0, 0, 0, 0), (0, 0, 0, 1, 0, 1)),
        ((0, 0, 1, 1, 0, 0), (0, 0, 0, 0, 1, 0)),
        ((0, 0, 0, 0, 1, 1), (0, 0, 0, 0, 0, 0)),
    ),
    (0, 1),
    (0, 0, 0, 0, 0, 0),
    5,
)

# One drop, n or y, says whether there were more a than b among those that are gone.
MORE = (
    ("n", "y", "a", "b"),
    (((1, 0, 1, 0), (0, 1, 0, 0)), ((0, 1, 0, 1), (1, 0, 0, 0))),
    (2, 3),
    (1, 0, 0, 0),
    1,
)

# One drop says whether as many are gone (e), one a more (p), or one b more (q).
SAME = (
    ("e", "p", "q", "a", "b"),
    (
        ((1, 0, 0, 1, 0), (0, 1, 0, 0, 0)),
        ((1, 0, 0, 0, 1), (0, 0, 1, 0, 0)),
        ((0, 1, 0, 0, 1), (1, 0, 0, 0, 0)),
        ((0, 0, 1, 1, 0), (1, 0, 0, 0, 0)),
    ),
    (3, 4),
    (1, 0, 0, 0, 0),
    0,
)

ONE = ((1, 0), 0)
OTHER = ((0, 1), 0)

# Pots, and what they reckon.
RECKONERS = (
    (SUM, ("sum", ((2, 1), 3))),
    (HALF, ("part", ((1,), 0), 2)),
    (LESSER, ("least", ONE, OTHER)),
    (GREATER, ("most", ONE, OTHER)),
    (MORE, ("more", ONE, OTHER)),
    (SAME, ("same", ONE, OTHER)),
    (STILL, ("sum", ((), 5))),
)

# Its answer never changes, but two sorts become one another for ever.
BACK = (("a", "b", "y"), (((1, 0, 0), (0, 1, 0)), ((0, 1, 0), (1, 0, 0))), (0,), (0, 0, 5), 2)

# Its answer grows for ever.
GROWS = (("a", "y"), (((1, 0), (1, 1)),), (), (1, 0), 1)

# From a drop of a comes a y, or a b, which becomes a c and a b again for ever.
LOST = (
    ("a", "b", "c", "y"),
    (
        ((1, 0, 0, 0), (0, 0, 0, 1)), ((1, 0, 0, 0), (0, 1, 0, 0)), ((0, 1, 0, 0), (0, 0, 1, 0)),
        ((0, 0, 1, 0), (0, 1, 0, 0)),
    ),
    (0,),
    (0, 0, 0, 0),
    3,
)

# The answer itself helps: that its one drop never goes what stays can't tell.
OWN = (("a", "y"), (((1, 1), (0, 2)),), (0,), (0, 1), 1)

# 21 times 20 stands come, whatever the order.
WIDE = (("a", "b", "c", "d"), (((1, 0, 0, 0), (0, 1, 0, 0)), ((0, 0, 1, 0), (0, 0, 0, 1))), (), (20, 0, 19, 0), 1)

ODD_THINGS = (
    None, True, False, -1, 10 ** 39, "", "a", "0", "a b", "sorts", [], (), {}, [1], (1,), {"a": 1}, {1: (2,)},
    ((),), [[]], (None,), ("a",), ("a", "b"), ((1, 0), (0, 1)), "\n",
)


def random_name(chance):
    while True:
        name = "".join(chance.choice("abcdefghijklmnopqrstuvwxyz") for sign in range(chance.randint(1, 8)))
        if name not in ("sorts", "begin", "in", "out", "rule", "to"):
            return name


def random_rule(chance, many, most):
    while True:
        takes, gives = [
            tuple(chance.choice((0, 0, chance.randint(0, most))) for sort in range(many)) for side in range(2)
        ]
        if any(takes) and takes != gives:
            return (takes, gives)


def random_pot(chance, most_sorts=8, most_rules=8, most=9):
    many = chance.randint(1, most_sorts)
    names = []
    while len(names) < many:
        name = random_name(chance)
        if name not in names:
            names.append(name)
    rules = tuple(random_rule(chance, many, most) for rule in range(chance.randint(0, most_rules)))
    inputs = tuple(chance.sample(range(many), chance.randint(0, min(3, many))))
    begin = tuple(chance.choice((0, 1, 9, 10, 99, chance.randint(0, 99))) for sort in range(many))
    return (tuple(names), rules, inputs, begin, chance.randrange(many))


def sought_rule(chance, many):
    while True:
        takes, gives = [0] * many, [0] * many
        for sort in chance.sample(range(many), min(many, chance.randint(1, 2))):
            takes[sort] = chance.choice((1, 1, 2))
        for sort in chance.sample(range(many), min(many, chance.randint(0, 2))):
            gives[sort] = chance.choice((1, 1, 2))
        if takes != gives:
            return (tuple(takes), tuple(gives))


def sought_pot(chance):
    """A drawn pot within the bounds of those of which papers and faults are sought."""
    many = chance.randint(1, 6)
    rules = tuple(sought_rule(chance, many) for rule in range(chance.randint(0, 4)))
    inputs = tuple(chance.sample(range(many), chance.randint(0, min(3, many))))
    begin = tuple(chance.choice((0, 0, 1, 2)) for sort in range(many))
    return (tuple("abcdef"[:many]), rules, inputs, begin, chance.randrange(many))


def random_line(chance, many, most=99):
    return (tuple(chance.randint(-most, most) for place in range(many)), chance.randint(-most, most))


def random_ask(chance, many, most=99):
    word = chance.choice(("sum", "part", "least", "most", "more", "same"))
    line = random_line(chance, many, most)
    if word == "sum":
        return (word, line)
    if word == "part":
        return (word, line, chance.randint(2, 9))
    return (word, line, random_line(chance, many, most))


def leads(pot, stand):
    """Where the rules that can go lead, by hand: pairs of rule and stand."""
    led = []
    for rule, (takes, gives) in enumerate(pot[1]):
        if all(count >= taken for count, taken in zip(stand, takes)):
            led.append((rule, tuple(c - t + g for c, t, g in zip(stand, takes, gives))))
    return led


def begun(pot, amounts):
    """The beginning by amounts, by hand."""
    more = dict(zip(pot[2], amounts, strict=True))
    return tuple(count + more.get(sort, 0) for sort, count in enumerate(pot[3]))


def added_up(ones, others):
    return sum(one * other for one, other in zip(ones, others, strict=True))


def rank_of(rows):
    """How many of the rows are not made of others, by fractions."""
    left = [[Fraction(number) for number in row] for row in rows]
    rank = 0
    while left:
        row = left.pop()
        place = next((place for place, number in enumerate(row) if number), None)
        if place is None:
            continue
        rank += 1
        left = [[a - b * other[place] / row[place] for a, b in zip(other, row)] for other in left]
    return rank


def within(thing, path):
    for place in path:
        thing = thing[place]
    return thing


def with_other(thing, path, other):
    """The tuple with what lies at the path put in the place of what was there."""
    if not path:
        return other
    place = path[0]
    return thing[:place] + (with_other(thing[place], path[1:], other),) + thing[place + 1:]


def paths_of(thing):
    """The paths to all that lies in a tuple, the tuple itself first."""
    paths = [()]
    if isinstance(thing, tuple):
        for place, part in enumerate(thing):
            paths.extend((place,) + path for path in paths_of(part))
    return paths


def others_for(part):
    """Things to put in the place of a part of a right thing."""
    yield from (None, True, False, "", "shut", "cut", [], {}, (), -1, 0, 1, 2, ((0, 1),), (0, 0), ("shut", ()))
    if isinstance(part, tuple):
        yield from (list(part), part[:-1], part[1:], part + part[-1:], part[::-1], part + (None,))
    if isinstance(part, int):
        yield from (part + 1, part - 1, -part, 10 ** 39 + part, str(part), (part,))
    if isinstance(part, str):
        yield from ("lacks", "right", part + " ", part.upper())


def same_kind(one, other):
    """Alike, and of the very same kinds all through (True is no 1, a list no tuple)."""
    if type(one) is not type(other):
        return False
    if isinstance(one, (list, tuple)):
        return len(one) == len(other) and all(same_kind(a, b) for a, b in zip(one, other))
    return one == other


def unchanged_by(call, *things):
    """Whether a call leaves what is handed in as it was; what it refuses is let go by."""
    kept = copy.deepcopy(things)
    try:
        call(*things)
    except ValueError:
        pass
    return same_kind(kept, things)
