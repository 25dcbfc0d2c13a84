import itertools
import random
import unittest

from dropsums.asks import asked, pieces_of
from dropsums.checker import lets_paper
from dropsums.coming import all_from, ended_of
from dropsums.facts import contrary, facts_of
from dropsums.falling import falls
from dropsums.finding import paper_for
from dropsums.pots import beginning
from dropsums.staying import all_kept
from dropsums.weighing import bears, meets, weighed
from helper import (
    GREATER, HALF, LESSER, MORE, RECKONERS, SAME, STILL, SUM, paths_of, random_ask, same_kind, sought_pot, unchanged_by,
    with_other, within,
)

SORTS, RULES, INPUTS, BEGIN, ANSWER = range(5)

# Whether there was any a at all: p and one a become q. Where no a is left, both p and q may be.
ANY_RULE = ((1, 0, 1), (0, 1, 0))
ANY = (("p", "q", "a"), (ANY_RULE,), (2,), (1, 0, 0), 1)
ANY_ASK = ("more", ((1,), 0), ((0,), 0))


def with_sorts_ahead(pot, sorts, behind=False):
    """The pot with more sorts (name, count, vanish): so many at first, and where told a rule by which two vanish."""
    many = len(pot[SORTS]) + len(sorts)
    left, right = (len(pot[SORTS]), 0) if behind else (0, len(sorts))

    def wide(numbers, more):
        return tuple(numbers) + tuple(more) if behind else tuple(more) + tuple(numbers)

    none = (0,) * len(sorts)
    rules = [tuple(wide(side, none) for side in rule) for rule in pot[RULES]]
    begin = []
    for place, (name, count, vanish) in enumerate(sorts):
        begin.append(count)
        if vanish:
            takes = tuple(2 if sort == left + place else 0 for sort in range(many))
            rules.append((takes, (0,) * many))
    names = wide(pot[SORTS], [name for name, count, vanish in sorts])
    inputs = tuple(sort + right for sort in pot[INPUTS])
    return (names, tuple(rules), inputs, wide(pot[BEGIN], begin), pot[ANSWER] + right)


# Sorts that say nothing of the answer, but have one drop or none at the end.
LOOSE = [("u", 3, True), ("v", 4, True), ("w", 5, True)]


class Plain:
    """Point 33 once more, as plainly as it is told: whether there is a plain paper, and how many cuts it has in a row."""

    def __init__(self, pot, ask):
        self.pot = pot
        self.pieces = pieces_of(pot, ask)
        self.width = len(pot[INPUTS]) + len(pot[SORTS])
        self.most_cuts = 0

    def is_there(self, chance):
        if falls(self.pot)[0] != "falls":
            return False
        facts = facts_of(self.pot, self.other_kepts(chance))
        choices = [
            [(sort, taken) for sort, taken in enumerate(takes) if taken > 0] for takes, gives in self.pot[RULES]
        ]
        return all(
            self.closes(facts + [self.drops(sort, -1, taken - 1) for sort, taken in lacking], 0)
            for lacking in itertools.product(*choices)
        )

    def other_kepts(self, chance):
        """Another list of what stays: to each one some others added."""
        kepts = all_kept(self.pot)
        for place in range(1, len(kepts)):
            times = chance.randint(-2, 2)
            kepts[place] = tuple(a + times * b for a, b in zip(kepts[place], kepts[place - 1]))
        chance.shuffle(kepts)
        return tuple(kepts)

    def drops(self, sort, times, plus):
        by = tuple(times if other == sort else 0 for other in range(len(self.pot[SORTS])))
        return ((0,) * len(self.pot[INPUTS]), by, plus)

    def has_a_no(self, forms):
        problem = [(by + sorts, plus) for by, sorts, plus in forms]
        answer = weighed(self.width, problem)
        if answer[0] == "numbers":
            assert meets(problem, *answer[1:])
            return False
        assert bears(problem, answer[1])
        return True

    def closes(self, facts, cuts):
        self.most_cuts = max(self.most_cuts, cuts)
        if self.has_a_no(facts):
            return True

        def bear(form):
            return self.has_a_no(facts + [contrary(form)])

        if any(all(bear(form) for form in piece) for piece in self.pieces):
            return True
        if cuts == 3:
            return False
        for sort in range(len(self.pot[SORTS])):
            if bear(self.drops(sort, -1, 1)):
                if not bear(self.drops(sort, -1, 0)) and not bear(self.drops(sort, 1, -1)):
                    low, high = self.drops(sort, -1, 0), self.drops(sort, 1, -1)
                    return self.closes(facts + [low], cuts + 1) and self.closes(facts + [high], cuts + 1)
        return False


class Told(unittest.TestCase):
    def told(self, pot, ask):
        """Whether a paper is told; then it is let by."""
        paper = paper_for(pot, ask)
        if paper is None:
            return False
        self.assertIs(type(paper), tuple)
        self.assertIs(lets_paper(pot, ask, paper), True)
        return True

    def told_rightly(self, chance, pot, ask):
        plain = Plain(pot, ask)
        told = self.told(pot, ask)
        self.assertIs(told, plain.is_there(chance), (pot, ask))
        return (told, plain.most_cuts)

    def keeps_small_ones(self, pot, ask, most):
        for amounts in itertools.product(range(most), repeat=len(pot[INPUTS])):
            stands = all_from(pot, beginning(pot, amounts), 2000)
            if stands is not None:
                answers = {stand[pot[ANSWER]] for stand in ended_of(pot, stands)}
                if answers != {asked(ask, amounts)}:
                    return False
        return True


class TestReckoners(Told):
    def test_papers(self):
        chance = random.Random(81)
        for pot, ask in RECKONERS:
            self.assertTrue(self.told_rightly(chance, pot, ask)[0], ask)

    def test_other_asks(self):
        chance = random.Random(82)
        one, other = ((1, 0), 0), ((0, 1), 0)
        for pot, ask, right in (
            (SUM, ("sum", ((2, 1), 4)), False), (SUM, ("sum", ((1, 2), 3)), False),
            (SUM, ("least", ((2, 1), 3), ((2, 1), 3)), True), (SUM, ("most", ((2, 1), 3), ((2, 1), 2)), True),
            (SUM, ("most", ((2, 1), 4), ((2, 1), 2)), False), (SUM, ("part", ((4, 2), 7), 2), True),
            (SUM, ("part", ((4, 2), 8), 2), False), (LESSER, ("least", other, one), True),
            (LESSER, ("most", one, other), False), (LESSER, ("sum", one), False), (GREATER, ("most", other, one), True),
            (GREATER, ("least", one, other), False), (MORE, ("more", other, one), False),
            (MORE, ("more", ((1, 0), -1), ((0, 1), -1)), True), (MORE, ("more", ((1, 0), 1), ((0, 1), 0)), False),
            (MORE, ("same", one, other), False), (SAME, ("same", other, one), True), (SAME, ("more", one, other), False),
            (HALF, ("part", ((1,), 1), 2), False), (HALF, ("part", ((2,), 1), 4), True),
            (HALF, ("sum", ((1,), 0)), False), (STILL, ("sum", ((), 4)), False), (STILL, ("part", ((), 11), 2), True),
            (STILL, ("part", ((), 12), 2), False), (STILL, ("more", ((), 1), ((), 0)), False),
        ):
            self.assertIs(self.told_rightly(chance, pot, ask)[0], right, ask)

    def test_the_kinds_that_are_told(self):
        for pot, ask in RECKONERS:
            kepts, heights, tree = paper_for(pot, ask)
            for path in paths_of((kepts, heights, tree)):
                self.assertIn(type(within((kepts, heights, tree), path)), (tuple, int, str))

    def test_the_same_each_time(self):
        for pot, ask in RECKONERS:
            self.assertTrue(same_kind(paper_for(pot, ask), paper_for(pot, ask)))

    def test_nothing_is_changed(self):
        for pot, ask in RECKONERS:
            self.assertTrue(unchanged_by(paper_for, pot, ask))


class TestPots(Told):
    def test_no_rules(self):
        chance = random.Random(83)
        for pot, ask, right in (
            ((("a",), (), (0,), (4,), 0), ("sum", ((1,), 4)), True), ((("a",), (), (0,), (4,), 0), ("sum", ((1,), 3)), False),
            ((("a", "b"), (), (0,), (4, 7), 1), ("sum", ((0,), 7)), True),
            ((("a", "b"), (), (0, 1), (0, 0), 1), ("most", ((0, 1), 0), ((0, 1), -1)), True),
            ((("a", "b"), (), (0, 1), (0, 0), 1), ("sum", ((1, 0), 0)), False),
            ((("a",), (), (), (1,), 0), ("more", ((), 1), ((), 0)), True),
            ((("a",), (), (), (0,), 0), ("same", ((), 1), ((), 0)), True),
        ):
            self.assertIs(self.told_rightly(chance, pot, ask)[0], right, (pot, ask))

    def test_pots_that_do_not_fall(self):
        chance = random.Random(84)
        back = (("a", "b"), (((1, 0), (0, 1)), ((0, 1), (1, 0))), (0,), (0, 0), 1)
        grows = (("a", "b"), (((1, 0), (1, 1)),), (), (0, 7), 1)
        round_elsewhere = (("a", "b", "c"), (((1, 0, 0), (0, 1, 0)), ((0, 1, 0), (1, 0, 0))), (), (0, 0, 5), 2)
        for pot, ask in (
            (back, ("sum", ((1,), 0))), (grows, ("sum", ((), 7))), (round_elsewhere, ("sum", ((), 5))),
        ):
            self.assertEqual(self.told_rightly(chance, pot, ask), (False, 0))
            self.assertIsNone(paper_for(pot, ask))

    def test_rules_that_lack_what_they_give_again(self):
        chance = random.Random(85)
        # By help of one h each a becomes a y. Without h none does; but where no a is left, what stays can't tell that.
        helped = (("a", "h", "y"), (((1, 1, 0), (0, 1, 1)),), (0,), (0, 1, 0), 2)
        for helpers, ask, right in (
            (1, ("sum", ((1,), 0)), True), (3, ("sum", ((1,), 0)), True), (0, ("sum", ((1,), 0)), False),
            (0, ("sum", ((0,), 0)), False), (1, ("sum", ((0,), 0)), False),
        ):
            pot = with_other(helped, (BEGIN, 1), helpers)
            self.assertIs(self.told_rightly(chance, pot, ask)[0], right)
        # Two h have to be there.
        two = with_other(helped, (RULES,), (((1, 2, 0), (0, 2, 1)),))
        for helpers, ask, right in ((1, ("sum", ((1,), 0)), False), (2, ("sum", ((1,), 0)), True)):
            self.assertIs(self.told_rightly(chance, with_other(two, (BEGIN, 1), helpers), ask)[0], right)
        # The answer itself helps: that its one drop never goes what stays can't tell, either.
        own = (("a", "y"), (((1, 1), (0, 2)),), (0,), (0, 1), 1)
        self.assertFalse(self.told_rightly(chance, own, ("sum", ((1,), 1)))[0])
        self.assertTrue(self.keeps_small_ones(own, ("sum", ((1,), 1)), 5))

    def test_cuts(self):
        chance = random.Random(86)
        h, z = ("h", 1, False), ("z", 0, False)
        for pot, ask, answer in (
            (LESSER, ("least", ((1, 0), 0), ((0, 1), 0)), (True, 0)), (ANY, ANY_ASK, (True, 1)),
            (with_sorts_ahead(ANY, LOOSE[:1]), ANY_ASK, (True, 2)),
            (with_sorts_ahead(ANY, LOOSE[:2]), ANY_ASK, (True, 3)),
            # A fourth cut would be wanted.
            (with_sorts_ahead(ANY, LOOSE), ANY_ASK, (False, 3)),
            # The first sort is cut first: that is enough.
            (with_sorts_ahead(ANY, LOOSE, True), ANY_ASK, (True, 1)),
            # Sorts of which it is known how many there are are not cut.
            (with_sorts_ahead(ANY, [h] + LOOSE[:2]), ANY_ASK, (True, 3)),
            (with_sorts_ahead(ANY, [z] + LOOSE[:2]), ANY_ASK, (True, 3)),
            (with_sorts_ahead(MORE, LOOSE[:2]), ("more", ((1, 0), 0), ((0, 1), 0)), (True, 3)),
            (with_sorts_ahead(MORE, LOOSE[:2], True), ("more", ((1, 0), 0), ((0, 1), 0)), (True, 1)),
        ):
            self.assertEqual(self.told_rightly(chance, pot, ask), answer, pot)
            self.assertTrue(self.keeps_small_ones(pot, ask, 3))

    def test_cuts_of_other_counts(self):
        # At the end there may be two of u: no cut is made of it, nor of what comes behind.
        chance = random.Random(87)
        pot = with_sorts_ahead(ANY, LOOSE)
        for place, rule in enumerate(pot[RULES][1:], start=1):
            takes = tuple(3 if taken else 0 for taken in rule[0])
            pot = with_other(pot, (RULES, place, 0), takes)
        self.assertEqual(self.told_rightly(chance, pot, ANY_ASK), (True, 1))

    def test_asks_that_are_not_kept(self):
        chance = random.Random(88)
        for pot, ask in RECKONERS:
            for turn in range(25):
                other = random_ask(chance, len(pot[INPUTS]), 2)
                told = self.told_rightly(chance, pot, other)[0]
                if told:
                    self.assertTrue(self.keeps_small_ones(pot, other, 4))
                if not self.keeps_small_ones(pot, other, 3):
                    self.assertIsNone(paper_for(pot, other))

    def test_the_largest_trees(self):
        # Four rules that take of two sorts each, the largest trees there are within the bounds of 4.
        chance = random.Random(89)
        pot = (
            ("u", "v", "w", "p", "q", "a"),
            (
                ((1, 1, 0, 0, 0, 0), (0, 0, 0, 0, 0, 0)), ((0, 1, 1, 0, 0, 0), (0, 0, 0, 0, 0, 0)),
                ((1, 0, 1, 0, 0, 0), (0, 0, 0, 0, 0, 0)), ((0, 0, 0, 1, 0, 1), (0, 0, 0, 0, 1, 0)),
            ),
            (5,),
            (2, 2, 2, 1, 0, 0),
            4,
        )
        self.assertTrue(self.told_rightly(chance, pot, ANY_ASK)[0])


class TestAnyPot(Told):
    def fitting_asks(self, pot):
        """Asks that fit some small beginnings of the pot, so that some of them are kept."""
        ends = {}
        many = len(pot[INPUTS])
        for amounts in itertools.product(range(3), repeat=many):
            stands = all_from(pot, beginning(pot, amounts), 60)
            answers = set() if stands is None else {stand[pot[ANSWER]] for stand in ended_of(pot, stands)}
            if len(answers) != 1:
                return []
            ends[amounts] = answers.pop()
        lines = [(by, plus) for by in itertools.product(range(3), repeat=many) for plus in range(-1, 4)]
        asks = [("sum", line) for line in lines] + [("part", line, m) for line in lines for m in (2, 3)]
        few = [line for line in lines if sum(line[0]) <= 2]
        asks += [(word, a, b) for word in ("least", "most", "more", "same") for a in few for b in few]
        return [ask for ask in asks if all(asked(ask, amounts) == end for amounts, end in ends.items())]

    def test_any_pot(self):
        chance = random.Random(90)
        for turn in range(250):
            pot = sought_pot(chance)
            self.told_rightly(chance, pot, random_ask(chance, len(pot[INPUTS]), 2))

    def test_asks_that_fit(self):
        chance = random.Random(91)
        answers = []
        for turn in range(500):
            pot = sought_pot(chance)
            asks = self.fitting_asks(pot)
            for ask in chance.sample(asks, min(3, len(asks))):
                answers.append(self.told_rightly(chance, pot, ask))
                if answers[-1][0]:
                    self.assertTrue(self.keeps_small_ones(pot, ask, 4))
        told = [right for right, cuts in answers]
        self.assertTrue(told.count(True) > 100 and told.count(False) > 20, (told.count(True), told.count(False)))

    def test_reckoners_with_one_thing_otherwise(self):
        chance = random.Random(92)
        answers = set()
        for pot, ask in RECKONERS + ((ANY, ANY_ASK), (with_sorts_ahead(ANY, LOOSE[:2]), ANY_ASK)):
            for turn in range(40):
                other = pot
                part = chance.choice((RULES, RULES, BEGIN, ANSWER))
                paths = [path for path in paths_of(pot) if path[:1] == (part,) and isinstance(within(pot, path), int)]
                if not paths:
                    continue
                path = chance.choice(paths)
                most = len(pot[SORTS]) - 1 if part == ANSWER else 2
                other = with_other(pot, path, chance.randint(0, most))
                if all(any(takes) and takes != gives for takes, gives in other[RULES]):
                    answers.add(self.told_rightly(chance, other, ask))
        self.assertTrue({(True, 0), (True, 1), (True, 3), (False, 0)} <= answers, answers)


if __name__ == "__main__":
    unittest.main()
