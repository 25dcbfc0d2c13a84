import itertools
import random
import unittest

from dropsums.asks import asked
from dropsums.errors import NoJoin
from dropsums.pots import is_pot
from dropsums.together import asked_in_a_row, put_together
from helper import (
    GREATER, HALF, HELPED, LARGE, LESSER, MORE, RECKONERS, SAME, STILL, SUM, random_ask, random_pot, same_kind,
    unchanged_by, with_other,
)

SORTS, RULES, INPUTS, BEGIN, ANSWER = range(5)


def laid(one, other, k):
    """Point 52 by names: the pot put together, whether it is within the bounds or not."""
    names = ["p" + letter for letter in "abcdefgh"[:len(one[SORTS])]]
    shared = other[INPUTS][k]
    free = iter("abcdefgh")
    called = [names[one[ANSWER]] if sort == shared else "q" + next(free) for sort in range(len(other[SORTS]))]
    sorts = tuple(names + [name for name in called if name.startswith("q")])

    def side(known, counts):
        by_name = dict(zip(known, counts))
        return tuple(by_name.get(name, 0) for name in sorts)

    rules = [tuple(side(names, counts) for counts in rule) for rule in one[RULES]]
    rules += [tuple(side(called, counts) for counts in rule) for rule in other[RULES]]
    inputs = [names[sort] for sort in one[INPUTS]] + [called[sort] for sort in other[INPUTS] if sort != shared]
    begin = tuple(a + b for a, b in zip(side(names, one[BEGIN]), side(called, other[BEGIN])))
    return (sorts, tuple(rules), tuple(map(sorts.index, inputs)), begin, sorts.index(called[other[ANSWER]]))


def refusal_of(one, other, k):
    """What is due by point 52, or None."""
    for number, (takes, gives) in enumerate(one[RULES]):
        if takes[one[ANSWER]]:
            return ("taken", number)
    if len(one[INPUTS]) + len(other[INPUTS]) > 4:
        return ("inputs", 0)
    if len(one[SORTS]) + len(other[SORTS]) > 9:
        return ("sorts", 0)
    if len(one[RULES]) + len(other[RULES]) > 8:
        return ("rules", 0)
    if one[BEGIN][one[ANSWER]] + other[BEGIN][other[INPUTS][k]] > 99:
        return ("begin", 0)
    return None


def plain_pot(sorts, rules, inputs, begin=0, answer=0, takes_answer=()):
    """A pot of so many of each; rule numbers in takes_answer take of the answer's sort, no others do."""
    many = sorts
    laid_rules = []
    for rule in range(rules):
        takes = [0] * many
        takes[answer if rule in takes_answer else (answer + 1) % many] = 1
        gives = [0] * many
        gives[answer] = 2 + rule % 7
        laid_rules.append((tuple(takes), tuple(gives)))
    return (tuple("abcdefgh"[:many]), tuple(laid_rules), tuple(range(inputs)), (begin,) * many, answer)


class TestPutTogether(unittest.TestCase):
    def put(self, one, other, k):
        """The pot put together, or the refusal's fields."""
        try:
            return put_together(one, other, k)
        except NoJoin as refusal:
            return (refusal.word, refusal.at)

    def put_rightly(self, one, other, k):
        """Whether they are put together; looked at by hand."""
        refusal = refusal_of(one, other, k)
        told = self.put(one, other, k)
        self.assertTrue(same_kind(told, refusal or laid(one, other, k)), (one, other, k, told))
        if refusal is None:
            self.assertTrue(is_pot(told))
        return refusal is None

    def test_by_hand(self):
        # The lesser of two, of which the half.
        self.assertEqual(put_together(LESSER, HALF, 0), (
            ("pa", "pb", "pc", "qa"),
            (((1, 1, 0, 0), (0, 0, 1, 0)), ((0, 0, 2, 0), (0, 0, 0, 1))),
            (0, 1),
            (0, 0, 0, 0),
            3,
        ))
        # The half of one, and another one: the lesser of both.
        self.assertEqual(put_together(HALF, LESSER, 0), (
            ("pa", "pb", "qa", "qb"),
            (((2, 0, 0, 0), (0, 1, 0, 0)), ((0, 1, 1, 0), (0, 0, 0, 1))),
            (0, 2),
            (0, 0, 0, 0),
            3,
        ))
        self.assertEqual(put_together(HALF, LESSER, 1), (
            ("pa", "pb", "qa", "qb"),
            (((2, 0, 0, 0), (0, 1, 0, 0)), ((0, 1, 1, 0), (0, 0, 0, 1))),
            (0, 2),
            (0, 0, 0, 0),
            3,
        ))
        # Inputs are not the first sorts, and begin is no nought.
        self.assertEqual(put_together(SUM, MORE, 1), (
            ("pa", "pb", "pc", "qa", "qb", "qc"),
            (
                ((1, 0, 0, 0, 0, 0), (0, 0, 2, 0, 0, 0)), ((0, 1, 0, 0, 0, 0), (0, 0, 1, 0, 0, 0)),
                ((0, 0, 0, 1, 0, 1), (0, 0, 0, 0, 1, 0)), ((0, 0, 1, 0, 1, 0), (0, 0, 0, 1, 0, 0)),
            ),
            (0, 1, 5),
            (0, 0, 3, 1, 0, 0),
            4,
        ))

    def test_the_same_pot_twice(self):
        self.assertEqual(put_together(HALF, HALF, 0), (
            ("pa", "pb", "qa"), (((2, 0, 0), (0, 1, 0)), ((0, 2, 0), (0, 0, 1))), (0,), (0, 0, 0), 2,
        ))
        for pot, ask in RECKONERS:
            for k in range(len(pot[INPUTS])):
                self.put_rightly(pot, pot, k)

    def test_each_input_of_the_other(self):
        three = (("a", "b", "c", "d"), (((1, 1, 1, 0), (0, 0, 0, 1)),), (2, 0, 1), (1, 2, 3, 4), 3)
        told = [put_together(STILL, three, k) for k in range(3)]
        self.assertEqual([pot[INPUTS] for pot in told], [(1, 2), (2, 1), (2, 1)])
        self.assertEqual([pot[BEGIN] for pot in told], [(8, 1, 2, 4), (6, 2, 3, 4), (7, 1, 3, 4)])
        self.assertEqual([pot[ANSWER] for pot in told], [3, 3, 3])
        for k in range(3):
            self.assertTrue(self.put_rightly(STILL, three, k))
            self.assertTrue(self.put_rightly(HALF, three, k))

    def test_an_answer_that_is_the_input(self):
        # The other's answer is its input's own sort.
        other = (("x", "y"), (((0, 1), (1, 0)),), (1, 0), (3, 4), 0)
        self.assertEqual(put_together(STILL, other, 1), (
            ("pa", "qa"), (((0, 1), (1, 0)),), (1,), (8, 4), 0,
        ))
        self.assertEqual(put_together(STILL, other, 0), (
            ("pa", "qa"), (((1, 0), (0, 1)),), (1,), (9, 3), 1,
        ))
        # The one's answer is its input's own sort.
        one = (("x",), (), (0,), (3,), 0)
        self.assertEqual(put_together(one, HALF, 0), (("pa", "qa"), (((2, 0), (0, 1)),), (0,), (3, 0), 1))
        self.assertEqual(put_together(one, one, 0), (("pa",), (), (0,), (6,), 0))

    def test_what_both_have_of_the_one_sort(self):
        # The other takes and gives of it, the one only gives.
        one = (("a", "y"), (((1, 0), (0, 9)),), (0,), (5, 50), 1)
        other = (("x", "z"), (((3, 0), (1, 1)), ((1, 1), (2, 0))), (0,), (49, 7), 1)
        self.assertEqual(put_together(one, other, 0), (
            ("pa", "pb", "qa"),
            (((1, 0, 0), (0, 9, 0)), ((0, 3, 0), (0, 1, 1)), ((0, 1, 1), (0, 2, 0))),
            (0,),
            (5, 99, 7),
            2,
        ))

    def test_taken(self):
        for number in range(4):
            for also in ((), (number,), range(number, 4)):
                one = plain_pot(3, 4, 1, takes_answer=tuple(also) or (number,))
                self.assertEqual(self.put(one, HALF, 0), ("taken", number))
        self.assertEqual(self.put(MORE, HALF, 0), ("taken", 1))
        self.assertEqual(self.put(GREATER, HALF, 0), ("taken", 3))
        self.assertEqual(self.put(SAME, HALF, 0), ("taken", 0))
        # What it takes and gives again it takes, too.
        self.assertEqual(self.put(HELPED, HALF, 0), ("taken", 1))
        # What the other takes of its answer doesn't matter.
        self.assertTrue(self.put_rightly(HALF, MORE, 0))

    def test_bounds(self):
        for one, other, word in (
            (plain_pot(3, 1, 2), plain_pot(3, 1, 2), None), (plain_pot(3, 1, 3), plain_pot(3, 1, 1), None),
            (plain_pot(3, 1, 0), plain_pot(3, 1, 3), None), (plain_pot(3, 1, 1), plain_pot(3, 1, 3), None),
            (plain_pot(3, 1, 2), plain_pot(3, 1, 3), "inputs"), (plain_pot(3, 1, 3), plain_pot(3, 1, 2), "inputs"),
            (plain_pot(3, 1, 3), plain_pot(3, 1, 3), "inputs"),
            (plain_pot(4, 1, 1), plain_pot(5, 1, 1), None), (plain_pot(8, 1, 1), plain_pot(1, 0, 1), None),
            (plain_pot(1, 0, 1), plain_pot(8, 1, 1), None), (plain_pot(5, 1, 1), plain_pot(5, 1, 1), "sorts"),
            (plain_pot(8, 1, 1), plain_pot(2, 1, 1), "sorts"), (plain_pot(8, 8, 1), plain_pot(8, 8, 1), "sorts"),
            (plain_pot(3, 4, 1), plain_pot(3, 4, 1), None), (plain_pot(3, 8, 1), plain_pot(3, 0, 1), None),
            (plain_pot(3, 0, 1), plain_pot(3, 8, 1), None), (plain_pot(3, 4, 1), plain_pot(3, 5, 1), "rules"),
            (plain_pot(3, 8, 1), plain_pot(3, 1, 1), "rules"), (plain_pot(3, 1, 1), plain_pot(3, 8, 1), "rules"),
            (plain_pot(3, 1, 1, 49), plain_pot(3, 1, 1, 50), None), (plain_pot(3, 1, 1, 99), plain_pot(3, 1, 1), None),
            (plain_pot(3, 1, 1), plain_pot(3, 1, 1, 99), None),
            (plain_pot(3, 1, 1, 50), plain_pot(3, 1, 1, 50), "begin"),
            (plain_pot(3, 1, 1, 99), plain_pot(3, 1, 1, 1), "begin"),
            (plain_pot(3, 1, 1, 1), plain_pot(3, 1, 1, 99), "begin"),
            (plain_pot(3, 1, 1, 99), plain_pot(3, 1, 1, 99), "begin"),
        ):
            for k in range(len(other[INPUTS])):
                self.assertIs(self.put_rightly(one, other, k), word is None)
                if word is not None:
                    self.assertEqual(self.put(one, other, k), (word, 0))

    def test_only_what_both_have_is_added(self):
        one = with_other(LESSER, (BEGIN,), (99, 99, 0))
        self.assertTrue(self.put_rightly(one, with_other(HALF, (BEGIN,), (99, 99)), 0))
        self.assertEqual(self.put(with_other(one, (BEGIN, 2), 1), with_other(HALF, (BEGIN, 0), 99), 0), ("begin", 0))
        other = with_other(LESSER, (BEGIN,), (1, 99, 99))
        self.assertTrue(self.put_rightly(with_other(HALF, (BEGIN,), (99, 98)), other, 0))
        self.assertEqual(self.put(with_other(HALF, (BEGIN,), (99, 98)), other, 1), ("begin", 0))

    def test_the_first_one_due(self):
        one, other = plain_pot(8, 8, 3, 99, takes_answer=(5, 7)), plain_pot(8, 8, 3, 99)
        self.assertEqual(self.put(one, other, 0), ("taken", 5))
        one = plain_pot(8, 8, 3, 99)
        self.assertEqual(self.put(one, other, 1), ("inputs", 0))
        one = with_other(one, (INPUTS,), (0,))
        self.assertEqual(self.put(one, other, 2), ("sorts", 0))
        other = plain_pot(1, 0, 1, 99)
        self.assertEqual(self.put(one, with_other(other, (RULES,), (((1,), (0,)),)), 0), ("rules", 0))
        self.assertEqual(self.put(one, other, 0), ("begin", 0))
        self.assertTrue(self.put_rightly(one, with_other(other, (BEGIN,), (0,)), 0))
        self.assertEqual(self.put(LARGE, LARGE, 0), ("taken", 0))

    def test_any_pots(self):
        chance = random.Random(141)
        words = []
        for turn in range(1500):
            one, other = [random_pot(chance, 6, 5, 9) for pot in range(2)]
            if chance.random() < 0.7:
                rules = tuple(rule for rule in one[RULES] if not rule[0][one[ANSWER]])
                one = with_other(one, (RULES,), rules)
            for k in range(len(other[INPUTS])):
                self.put_rightly(one, other, k)
                words.append((refusal_of(one, other, k) or (None,))[0])
        for word in (None, "taken", "inputs", "sorts", "rules", "begin"):
            self.assertTrue(words.count(word) > 10, (word, words.count(word)))

    def test_reckoners(self):
        put = 0
        for one, one_ask in RECKONERS:
            for other, other_ask in RECKONERS:
                for k in range(len(other[INPUTS])):
                    put += self.put_rightly(one, other, k)
        self.assertTrue(put > 20)

    def test_nothing_is_changed(self):
        for one, other in ((LESSER, HALF), (HALF, LESSER), (MORE, HALF), (LARGE, LARGE), (STILL, LARGE)):
            self.assertTrue(unchanged_by(put_together, one, other, 0))


class TestAskedInARow(unittest.TestCase):
    def by_hand(self, many, one, other, k, amounts):
        others = list(amounts[many:])
        others.insert(k, asked(one, amounts[:many]))
        return asked(other, tuple(others))

    def test_by_hand(self):
        least, most = ("least", ((1, 0), 0), ((0, 1), 0)), ("most", ((1, 0), 0), ((0, 1), 0))
        half, double = ("part", ((1,), 0), 2), ("sum", ((2,), 1))
        for many, one, other, k, amounts, answer in (
            (2, least, half, 0, (7, 9), 3), (2, most, half, 0, (7, 9), 4), (1, half, half, 0, (11,), 2),
            (1, half, least, 0, (11, 3), 3), (1, half, least, 1, (11, 3), 3), (1, half, least, 0, (11, 8), 5),
            (1, double, double, 0, (5,), 23), (0, ("sum", ((), 5)), double, 0, (), 11),
            (0, ("sum", ((), 5)), ("more", ((1, 0), 0), ((0, 1), 0)), 0, (4,), 1),
            (0, ("sum", ((), 5)), ("more", ((1, 0), 0), ((0, 1), 0)), 1, (4,), 0),
            (1, double, ("same", ((1, 0), 0), ((0, 1), 0)), 1, (3, 7), 1),
            # Of three: the one's answer comes first, in the middle, last.
            (1, double, ("sum", ((1, 10, 50), 0)), 0, (1, 5, 7), 403),
            (1, double, ("sum", ((1, 10, 50), 0)), 1, (1, 5, 7), 385),
            (1, double, ("sum", ((1, 10, 50), 0)), 2, (1, 5, 7), 225),
            (3, ("sum", ((1, 2, 3), 0)), double, 0, (1, 10, 20), 163),
        ):
            told = asked_in_a_row(many, one, other, k, amounts)
            self.assertIs(type(told), int)
            self.assertEqual(told, answer, (one, other, k, amounts))

    def test_what_comes_below_0(self):
        below = ("sum", ((-2,), 1))
        self.assertEqual(asked_in_a_row(1, below, ("sum", ((1,), 0)), 0, (3,)), -5)
        self.assertEqual(asked_in_a_row(1, below, ("part", ((1,), 0), 2), 0, (3,)), -3)
        self.assertEqual(asked_in_a_row(1, below, below, 0, (3,)), 11)
        self.assertEqual(asked_in_a_row(1, below, ("more", ((1, 0), 0), ((0, 1), 0)), 1, (3, 0)), 1)
        self.assertEqual(asked_in_a_row(1, below, ("least", ((1, 0), 0), ((0, 1), 0)), 0, (3, 4)), -5)

    def test_any_asks(self):
        chance = random.Random(142)
        words = set()
        for turn in range(1500):
            many, others = chance.randint(0, 3), chance.randint(1, 3)
            one, other = random_ask(chance, many), random_ask(chance, others)
            k = chance.randrange(others)
            amounts = tuple(chance.choice((0, 1, 5, 10 ** 12)) for place in range(many + others - 1))
            told = asked_in_a_row(many, one, other, k, amounts)
            self.assertEqual(told, self.by_hand(many, one, other, k, amounts))
            words.add((one[0], other[0]))
        self.assertEqual(words, set(itertools.product(("sum", "part", "least", "most", "more", "same"), repeat=2)))

    def test_nothing_is_changed(self):
        self.assertTrue(unchanged_by(asked_in_a_row, 1, ("sum", ((1,), 0)), ("sum", ((1, 1), 0)), 1, (3, 4)))


if __name__ == "__main__":
    unittest.main()
