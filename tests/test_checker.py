import random
import unittest

from dropsums.asks import asked, pieces_of
from dropsums.checker import lets_paper
from dropsums.coming import all_from, ended_of
from dropsums.errors import NoPaper
from dropsums.finding import paper_for
from dropsums.pots import beginning
from helper import (
    HALF, LESSER, MORE, ODD_THINGS, RECKONERS, SAME, STILL, others_for, paths_of, same_kind, unchanged_by, with_other,
    within,
)

SORTS, RULES, INPUTS, BEGIN = range(4)

# Facts: 0 the amount, 1 x, 2 y, 3 x + 2 y less the amount, 4 the contrary way; within lacks 5: x is at most 1.
HALF_ASK = ("part", ((1,), 0), 2)
HALF_RIGHT = ("right", 0, (((1, 1), (4, 1), (6, 1)), ((3, 1), (5, 1), (6, 1))))
HALF_PAPER = (((1, 2),), (1, 0), ("lacks", 0, (HALF_RIGHT,)))

# The same with a needless cut: 6 is x at most 5, or x at least 6, which can't be.
CUT_RIGHT = ("right", 0, (((1, 1), (4, 1), (7, 1)), ((3, 1), (5, 1), (7, 1))))
CUT_PAPER = (((1, 2),), (1, 0), ("lacks", 0, (("cut", 0, 5, CUT_RIGHT, ("shut", ((5, 1), (6, 1)))),)))

# No rules: 0 the drops, 1 these less 5, 2 the contrary way.
STILL_ASK = ("sum", ((), 5))
STILL_RIGHT = ("right", 0, (((1, 1), (3, 1)), ((2, 1), (3, 1))))
STILL_PAPER = (((1,),), (0,), STILL_RIGHT)

HAND_MADE = ((HALF, HALF_ASK, HALF_PAPER), (HALF, HALF_ASK, CUT_PAPER), (STILL, STILL_ASK, STILL_PAPER))


def papers():
    return list(HAND_MADE) + [(pot, ask, paper_for(pot, ask)) for pot, ask in RECKONERS]


def is_whole(thing):
    return type(thing) is int


def is_row(thing, many):
    return type(thing) is tuple and len(thing) == many and all(map(is_whole, thing))


def are_weights(thing):
    if type(thing) is not tuple or not all(is_row(pair, 2) and pair[0] >= 0 and pair[1] >= 1 for pair in thing):
        return False
    numbers = [pair[0] for pair in thing]
    return numbers == sorted(set(numbers))


class Looked:
    """Point 32 once more, as plainly as it is told: the fault of a thing, or None."""

    def __init__(self, pot, ask):
        self.pot = pot
        self.many = len(pot[SORTS])
        self.pieces = pieces_of(pot, ask)

    def fault(self, thing):
        self.trees = 0
        self.leaf = -1
        if not self.is_paper(thing):
            return ("shape", 0)
        kepts, heights, tree = thing
        for number, kept in enumerate(kepts):
            if any(self.moved(kept, rule) != 0 for rule in self.pot[RULES]):
                return ("kept", number)
        for number, rule in enumerate(self.pot[RULES]):
            if self.moved(heights, rule) >= 0:
                return ("height", number)
        open_leaf = self.open_leaf(tree, self.facts(kepts))
        return None if open_leaf is None else ("leaf", open_leaf)

    def is_paper(self, thing):
        if type(thing) is not tuple or len(thing) != 3 or type(thing[0]) is not tuple or len(thing[0]) > 8:
            return False
        kepts, heights, tree = thing
        if not all(is_row(kept, self.many) for kept in kepts) or not is_row(heights, self.many):
            return False
        return min(heights) >= 0 and self.is_tree(tree, 1)

    def is_tree(self, thing, depth):
        self.trees += 1
        if depth > 40 or self.trees > 1000 or type(thing) is not tuple or not thing:
            return False
        word, rest = thing[0], thing[1:]
        if word == "shut":
            return len(rest) == 1 and are_weights(rest[0])
        if word == "cut":
            if len(rest) != 4 or not is_whole(rest[0]) or not is_whole(rest[1]):
                return False
            right = 0 <= rest[0] < self.many and rest[1] >= 0
            return right and all(self.is_tree(tree, depth + 1) for tree in rest[2:])
        if word not in ("lacks", "right") or len(rest) != 2 or not is_whole(rest[0]) or type(rest[1]) is not tuple:
            return False
        number, parts = rest
        if word == "right":
            right = 0 <= number < len(self.pieces) and len(parts) == len(self.pieces[number])
            return right and all(map(are_weights, parts))
        if not 0 <= number < len(self.pot[RULES]) or len(parts) != sum(map(bool, self.pot[RULES][number][0])):
            return False
        return all(self.is_tree(tree, depth + 1) for tree in parts)

    def moved(self, numbers, rule):
        return sum(number * (given - taken) for number, taken, given in zip(numbers, *rule))

    def facts(self, kepts):
        """Forms as flat lists: inputs, sorts, and plus."""
        inputs = self.pot[INPUTS]
        width = len(inputs) + self.many
        facts = [[int(place == other) for other in range(width)] + [0] for place in range(width)]
        for kept in kepts:
            begun = sum(number * count for number, count in zip(kept, self.pot[BEGIN]))
            fact = [-kept[sort] for sort in inputs] + list(kept) + [-begun]
            facts += [fact, [-number for number in fact]]
        return facts

    def drops(self, sort, times, plus):
        fact = [0] * (len(self.pot[INPUTS]) + self.many) + [plus]
        fact[len(self.pot[INPUTS]) + sort] = times
        return fact

    def open_leaf(self, tree, facts):
        if tree[0] == "lacks":
            takes = self.pot[RULES][tree[1]][0]
            more = [self.drops(sort, -1, taken - 1) for sort, taken in enumerate(takes) if taken]
            return self.open_within(tree[2], facts, more)
        if tree[0] == "cut":
            more = [self.drops(tree[1], -1, tree[2]), self.drops(tree[1], 1, -tree[2] - 1)]
            return self.open_within(tree[3:], facts, more)
        self.leaf += 1
        if tree[0] == "shut":
            return None if self.shut(facts, tree[1]) else self.leaf
        for (by, sorts, plus), ground in zip(self.pieces[tree[1]], tree[2]):
            contrary = [-number for number in by + sorts] + [-plus - 1]
            if not self.shut(facts + [contrary], ground):
                return self.leaf
        return None

    def open_within(self, trees, facts, more):
        for tree, fact in zip(trees, more):
            told = self.open_leaf(tree, facts + [fact])
            if told is not None:
                return told
        return None

    def shut(self, facts, weights):
        if any(number >= len(facts) for number, times in weights):
            return False
        totals = [sum(times * facts[number][place] for number, times in weights) for place in range(len(facts[0]))]
        return not any(totals[:-1]) and totals[-1] < 0


class TestLetsBy(unittest.TestCase):
    def test_right_papers(self):
        words = set()
        for pot, ask, paper in papers():
            self.assertIs(lets_paper(pot, ask, paper), True)
            self.assertIsNone(Looked(pot, ask).fault(paper))
            words.add(ask[0])
        self.assertEqual(words, {"sum", "part", "least", "most", "more", "same"})

    def test_void_kepts(self):
        # At the end there is none of the answer's sort: for that nothing need stay.
        pot = (("a", "b"), (((0, 1), (0, 0)),), (), (0, 7), 1)
        paper = ((), (0, 1), ("lacks", 0, (("right", 0, (((1, 1), (3, 1)), ((2, 1), (3, 1)))),)))
        self.assertIs(lets_paper(pot, ("sum", ((), 0)), paper), True)

    def test_large_numbers(self):
        large = 10 ** 999
        paper = (((large, 2 * large),), (large, 0), ("lacks", 0, ((
            "right", 0, (((1, large), (4, 1), (6, large)), ((3, 1), (5, large), (6, large)))
        ),)))
        self.assertIs(lets_paper(HALF, HALF_ASK, paper), True)
        other = with_other(paper, (2, 2, 0, 2, 1, 0, 1), 2)
        with self.assertRaises(NoPaper):
            lets_paper(HALF, HALF_ASK, other)

    def test_needless_kepts_and_noughts(self):
        tree = HALF_PAPER[2]
        for kepts in (((1, 2),) * 2, ((1, 2), (0, 0)), ((1, 2),) + ((5, 10),) * 7):
            # The needless ones shift what stands behind them.
            more = 2 * (len(kepts) - 1)
            right = ("right", 0, (((1, 1), (4, 1), (6 + more, 1)), ((3, 1), (5 + more, 1), (6 + more, 1))))
            self.assertIs(lets_paper(HALF, HALF_ASK, (kepts, (1, 1), ("lacks", 0, (right,)))), True)
            with self.assertRaises(NoPaper):
                lets_paper(HALF, HALF_ASK, (kepts, (1, 1), tree))

    def test_what_is_let_by_is_so(self):
        # From each small beginning, whatever the order: the end has the answer.
        for pot, ask, paper in papers():
            for a in range(4):
                for b in range(4):
                    amounts = (a, b)[:len(pot[INPUTS])]
                    stands = all_from(pot, beginning(pot, amounts), 2000)
                    ended = ended_of(pot, stands)
                    self.assertTrue(ended)
                    self.assertEqual({stand[pot[4]] for stand in ended}, {asked(ask, amounts)})


class TestRefused(unittest.TestCase):
    def refused(self, pot, ask, thing, word, at):
        with self.assertRaises(NoPaper) as taken:
            lets_paper(pot, ask, thing)
        told = (taken.exception.word, taken.exception.at)
        self.assertTrue(same_kind(told, (word, at)), (thing, told))
        self.assertEqual(Looked(pot, ask).fault(thing), (word, at))

    def half(self, path, other, word, at, paper=CUT_PAPER):
        self.refused(HALF, HALF_ASK, with_other(paper, path, other), word, at)

    def test_odd_things(self):
        for thing in ODD_THINGS + (((), (), ()), [(), (), ()], "kept", {0: (), 1: (), 2: ()}, list(HALF_PAPER)):
            for pot, ask, paper in papers():
                self.refused(pot, ask, thing, "shape", 0)

    def test_things_far_within_one_another(self):
        for thing in ((), [], "shut"):
            for depth in range(90):
                thing = (thing,) if depth % 3 else [thing]
            self.refused(HALF, HALF_ASK, thing, "shape", 0)
            self.half((2,), thing, "shape", 0)
            self.half((2, 0), thing, "shape", 0)

    def test_shape(self):
        tree = CUT_PAPER[2]
        for path, other in (
            ((), CUT_PAPER + (0,)), ((), CUT_PAPER[:2]), ((), ()), ((0,), ((1,),)), ((0,), ((1, 2, 3),)),
            ((0,), ((1, True),)), ((0,), ((1, None),)), ((0,), (1, 2)), ((0,), [(1, 2)]), ((0,), ([1, 2],)),
            ((0,), None), ((1,), (1,)), ((1,), (1, 0, 0)), ((1,), (1, -1)), ((1,), (True, 0)), ((1,), [1, 0]),
            ((1,), ("1", 0)), ((1,), None), ((2,), ()), ((2,), ("lacks",)), ((2,), ("lacks", 0)), ((2,), list(tree)),
            ((2,), tree + (0,)), ((2, 0), "Lacks"), ((2, 0), "lack"), ((2, 0), ""), ((2, 0), None), ((2, 0), "right"),
            ((2, 1), 1), ((2, 1), -1), ((2, 1), False), ((2, 1), None), ((2, 1), "0"), ((2, 2), ()),
            ((2, 2), tree[2] * 2), ((2, 2), list(tree[2])), ((2, 2), None), ((2, 2, 0, 0), "shut"),
            ((2, 2, 0, 1), 2), ((2, 2, 0, 1), -1), ((2, 2, 0, 1), False), ((2, 2, 0, 1), "x"), ((2, 2, 0, 2), -1),
            ((2, 2, 0, 2), True), ((2, 2, 0, 2), None), ((2, 2, 0), tree[2][0][:4]), ((2, 2, 0), tree[2][0] + tree[2]),
            ((2, 2, 0, 3), None), ((2, 2, 0, 4), ()), ((2, 2, 0, 3, 1), 1), ((2, 2, 0, 3, 1), -1),
            ((2, 2, 0, 3, 1), False), ((2, 2, 0, 3, 2), ()), ((2, 2, 0, 3, 2), CUT_RIGHT[2][:1]),
            ((2, 2, 0, 3, 2), CUT_RIGHT[2] + CUT_RIGHT[2][:1]), ((2, 2, 0, 3, 2), list(CUT_RIGHT[2])),
            ((2, 2, 0, 3, 2, 0), None), ((2, 2, 0, 3, 2, 0), ((1, 1), (1, 1))), ((2, 2, 0, 3, 2, 0), ((4, 1), (1, 1))),
            ((2, 2, 0, 3, 2, 0), [(1, 1)]), ((2, 2, 0, 3, 2, 0, 0), (1, 0)), ((2, 2, 0, 3, 2, 0, 0), (1, -1)),
            ((2, 2, 0, 3, 2, 0, 0), (-1, 1)), ((2, 2, 0, 3, 2, 0, 0), (1, True)), ((2, 2, 0, 3, 2, 0, 0), (True, 1)),
            ((2, 2, 0, 3, 2, 0, 0), (1, 1, 1)), ((2, 2, 0, 3, 2, 0, 0), [1, 1]), ((2, 2, 0, 4, 1), None),
            ((2, 2, 0, 4, 1), ((6, 1), (5, 1))), ((2, 2, 0, 4, 1), ((5, 1), (6, 0))), ((2, 2, 0, 4), ("shut", (), ())),
            ((2, 2, 0, 4), ("shut",)),
        ):
            self.half(path, other, "shape", 0)

    def test_pieces_that_there_are(self):
        # Of same the first piece has four forms, the other two have three.
        for pot, ask in ((SAME, ("same", ((1, 0), 0), ((0, 1), 0))), (LESSER, ("least", ((1, 0), 0), ((0, 1), 0)))):
            many = len(pot[SORTS])
            pieces = pieces_of(pot, ask)
            for piece in range(-1, 5):
                for grounds in range(6):
                    paper = ((), (2,) * many, ("right", piece, ((),) * grounds))
                    shaped = 0 <= piece < len(pieces) and grounds == len(pieces[piece])
                    if shaped:
                        self.refused(pot, ask, paper, "leaf", 0)
                    else:
                        self.refused(pot, ask, paper, "shape", 0)

    def test_kepts(self):
        self.half((0,), ((1, 2),) * 9, "shape", 0)
        self.half((0,), ((1, 2),) * 8, "leaf", 0)
        for k in range(8):
            for other in ((1, 1), (0, 1), (1, 0), (1, -2)):
                self.half((0,), ((1, 2),) * k + (other,), "kept", k)
                self.half((0,), ((1, 2),) * k + (other,) * (8 - k), "kept", k)

    def test_heights(self):
        for heights in ((0, 0), (1, 2), (0, 5), (3, 6), (3, 7)):
            self.half((1,), heights, "height", 0)
        pot, ask = RECKONERS[5]
        paper = paper_for(pot, ask)
        for heights, rule in (
            ((1, 1, 1, 0, 1), 0), ((2, 2, 3, 1, 1), 1), ((3, 2, 2, 1, 1), 2), ((3, 3, 2, 1, 1), 3), ((0,) * 5, 0),
        ):
            self.refused(pot, ask, with_other(paper, (1,), heights), "height", rule)
        self.assertIs(lets_paper(pot, ask, with_other(paper, (1,), (2, 2, 2, 1, 1))), True)

    def test_leaves(self):
        for path, other, leaf in (
            ((2, 2, 0, 3, 2, 0), (), 0), ((2, 2, 0, 3, 2, 1), (), 0), ((2, 2, 0, 4, 1), (), 1),
            ((2, 2, 0, 3, 2, 0), ((1, 1), (4, 1), (7, 2)), 0), ((2, 2, 0, 3, 2, 1), ((3, 1), (5, 2), (7, 1)), 0),
            ((2, 2, 0, 4, 1), ((5, 1), (6, 2)), 1), ((2, 2, 0, 4, 1), ((5, 1),), 1), ((2, 2, 0, 4, 1), ((4, 1), (5, 1)), 1),
            ((2, 2, 0, 1), 1, 1), ((2, 2, 0, 3), ("shut", ((5, 1), (6, 1))), 0),
            # A cut at 0: x at most 1 and at least 1 may be.
            ((2, 2, 0, 2), 0, 1),
        ):
            self.half(path, other, "leaf", leaf)

    def test_other_leaves_that_are_right(self):
        # What is right where x is at most 5 is right by the same weights where it is at least 6.
        self.assertIs(lets_paper(HALF, HALF_ASK, with_other(CUT_PAPER, (2, 2, 0, 4), CUT_RIGHT)), True)
        self.assertIs(lets_paper(HALF, HALF_ASK, with_other(CUT_PAPER, (2, 2, 0, 2), 1)), True)
        self.assertIs(lets_paper(HALF, HALF_ASK, with_other(CUT_PAPER, (2, 2, 0, 2), 10 ** 39)), True)

    def test_numbers_beyond_the_facts(self):
        for number in (7, 8, 10 ** 39):
            self.half((2, 2, 0, 4, 1), ((5, 1), (6, 1), (number, 1)), "leaf", 1)
            self.half((2, 2, 0, 4, 1), ((number, 1),), "leaf", 1)
        for number in (8, 9, 10 ** 39):
            self.half((2, 2, 0, 3, 2, 0), ((1, 1), (4, 1), (7, 1), (number, 1)), "leaf", 0)

    def test_the_first_fault_goes_first(self):
        wrong = CUT_PAPER
        for path, other, word, at in (
            ((2, 2, 0, 4, 1), (), "leaf", 1), ((2, 2, 0, 3, 2, 1), (), "leaf", 0), ((1,), (0, 0), "height", 0),
            ((0,), ((1, 2), (1, 1)), "kept", 1), ((0,), ((1, 3), (1, 1)), "kept", 0), ((2, 1), 5, "shape", 0),
        ):
            wrong = with_other(wrong, path, other)
            self.refused(HALF, HALF_ASK, wrong, word, at)

    def test_leaves_are_counted_as_they_come(self):
        for pot, ask, paper in papers():
            leaves = [path for path in paths_of(paper) if path and within(paper, path) in ("shut", "right")]
            for number, path in enumerate(leaves):
                self.refused(pot, ask, with_other(paper, path[:-1], ("shut", ())), "leaf", number)
                for later in leaves[number + 1:]:
                    both = with_other(with_other(paper, path[:-1], ("shut", ())), later[:-1], ("shut", ()))
                    self.refused(pot, ask, both, "leaf", number)
            self.assertTrue(leaves)
        self.assertTrue(len(paths_of(papers()[-2][2])) > 100)

    def test_papers_of_others(self):
        for pot, ask, paper in papers():
            for other_pot, other_ask, other_paper in papers():
                if len(pot[INPUTS]) == len(other_pot[INPUTS]) and (pot, ask) != (other_pot, other_ask):
                    fault = Looked(pot, ask).fault(other_paper)
                    self.refused(pot, ask, other_paper, *fault)

    def test_an_ask_that_is_not_kept(self):
        for pot, ask, paper in papers():
            line = ask[1]
            other = ("sum", (line[0], line[1] + 1))
            if ask[0] == "sum":
                self.refused(pot, other, paper, "leaf", 0)
        self.refused(HALF, ("part", ((1,), 1), 2), HALF_PAPER, "leaf", 0)
        self.refused(HALF, ("part", ((1,), 0), 3), HALF_PAPER, "leaf", 0)
        self.refused(MORE, ("more", ((0, 1), 0), ((1, 0), 0)), paper_for(*RECKONERS[4]), "leaf", 1)


class TestAnyPaper(unittest.TestCase):
    """Right papers with one thing otherwise at each place, looked at twice."""

    def told(self, pot, ask, thing):
        try:
            return None if lets_paper(pot, ask, thing) is True else "no"
        except NoPaper as refusal:
            return (refusal.word, refusal.at)

    def test_one_thing_otherwise(self):
        words = []
        for pot, ask, paper in papers():
            looked = Looked(pot, ask)
            for path in paths_of(paper):
                for other in others_for(within(paper, path)):
                    thing = with_other(paper, path, other)
                    told = self.told(pot, ask, thing)
                    self.assertTrue(same_kind(told, looked.fault(thing)), (thing, told))
                    words.append(told and told[0])
        for word in (None, "shape", "kept", "height", "leaf"):
            self.assertTrue(words.count(word) > 50, word)

    def test_several_things_otherwise(self):
        chance = random.Random(72)
        words = []
        for pot, ask, paper in papers():
            looked = Looked(pot, ask)
            for turn in range(400):
                thing = paper
                for change in range(chance.randint(2, 3)):
                    path = chance.choice([path for path in paths_of(thing) if path])
                    part = within(thing, path)
                    if isinstance(part, int):
                        other = chance.choice((part + 1, part - 1, part + 2, 0, 1))
                    elif isinstance(part, tuple):
                        other = chance.choice((part[::-1], within(thing, chance.choice(paths_of(thing)))))
                    else:
                        other = part
                    thing = with_other(thing, path, other)
                told = self.told(pot, ask, thing)
                self.assertTrue(same_kind(told, looked.fault(thing)), (thing, told))
                words.append(told and told[0])
        for word in ("shape", "kept", "height", "leaf"):
            self.assertTrue(words.count(word) > 30, word)

    def test_nothing_is_changed(self):
        for pot, ask, paper in papers():
            self.assertTrue(unchanged_by(lets_paper, pot, ask, paper))
        thing = (((1, 2),), (1, 0), ["lacks", {"a": [1]}])
        self.assertTrue(unchanged_by(lets_paper, HALF, HALF_ASK, thing))


class TestBoundsOfTrees(unittest.TestCase):
    def right(self, more):
        return ("right", 0, (((1, 1), (4, 1), (5 + more, 1)), ((3, 1), (5, 1), (5 + more, 1))))

    def cuts(self, trees, facts):
        """A tree of so many trees, an odd number, cut as evenly as it goes; all its leaves right."""
        if trees == 1:
            return self.right(facts)
        low = (trees - 1) // 2
        low += 1 - low % 2
        return ("cut", 1, 3, self.cuts(low, facts + 1), self.cuts(trees - 1 - low, facts + 1))

    def half(self, tree):
        return ((HALF_PAPER[0]), (1, 0), tree)

    def told(self, tree):
        try:
            return lets_paper(HALF, HALF_ASK, self.half(tree))
        except NoPaper as refusal:
            return (refusal.word, refusal.at)

    def test_a_thousand_trees(self):
        # The lacks is one of them, and gives the fact by which the leaves are right.
        for trees in (1, 3, 99, 997, 999):
            self.assertIs(self.told(("lacks", 0, (self.cuts(trees, 1),))), True)
        for trees in (1001, 1003, 1501):
            self.assertEqual(self.told(("lacks", 0, (self.cuts(trees, 1),))), ("shape", 0))

    def test_one_more_than_a_thousand(self):
        self.assertIs(self.told(("lacks", 0, (self.cuts(999, 1),))), True)
        self.assertEqual(self.told(("lacks", 0, (("lacks", 0, (self.cuts(999, 2),)),))), ("shape", 0))
        self.assertIs(self.told(("lacks", 0, (("lacks", 0, (self.cuts(997, 2),)),))), True)

    def chain(self, depth, low):
        tree = self.right(depth - 1)
        for place in range(depth - 2, 0, -1):
            other = self.right(place + 1)
            tree = ("cut", 1, 3, tree, other) if low else ("cut", 1, 3, other, tree)
        return ("lacks", 0, (tree,))

    def test_forty_within_one_another(self):
        for low in (False, True):
            for depth in (2, 3, 20, 39, 40):
                self.assertIs(self.told(self.chain(depth, low)), True, depth)
            for depth in (41, 42, 60):
                self.assertEqual(self.told(self.chain(depth, low)), ("shape", 0), depth)

    def test_lacks_alone(self):
        for depth in range(2, 50):
            tree = self.right(depth - 1)
            for place in range(depth - 1):
                tree = ("lacks", 0, (tree,))
            self.assertEqual(self.told(tree), True if depth <= 40 else ("shape", 0))

    def test_one_thing_in_many_places(self):
        # As many trees as there are places, not as there are things: here far more than could be walked.
        tree = self.right(38)
        for place in range(38):
            tree = ("cut", 1, 3, tree, tree)
        self.assertEqual(self.told(("lacks", 0, (tree,))), ("shape", 0))


if __name__ == "__main__":
    unittest.main()
