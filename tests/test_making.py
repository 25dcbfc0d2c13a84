import itertools
import random
import unittest

from dropsums.asks import asked
from dropsums.checker import lets_paper
from dropsums.coming import all_from
from dropsums.judging import judged
from dropsums.making import made
from dropsums.orders import chosen
from dropsums.pots import is_pot
from helper import begun, leads, paths_of, same_kind, unchanged_by, within

SORTS, RULES, INPUTS, BEGIN, ANSWER = range(5)

TWO_LINES = ("least", "most", "more", "same")


def noughts(many):
    return ((0,) * many, 0)


def edge_lines(many):
    """Lines of noughts alone, of ones, and of the greatest numbers."""
    last = (0,) * (many - 1)
    lines = [noughts(many), ((0,) * many, 9), ((3,) * many, 0), ((3,) * many, 9), ((1,) + last, 0), (last + (2,), 1)]
    return list(dict.fromkeys(lines))


def drawn_line(chance, many):
    by = tuple(chance.choice((0, 1, 3, chance.randint(0, 3))) for place in range(many))
    return (by, chance.choice((0, 9, chance.randint(0, 9))))


def drawn_ask(chance, many, word):
    line = drawn_line(chance, many)
    if word == "sum":
        return (word, line)
    if word == "part":
        return (word, line, chance.randint(2, 6))
    other = chance.choice((line, drawn_line(chance, many), drawn_line(chance, many)))
    return (word, line, other)


class TestMade(unittest.TestCase):
    def made_rightly(self, many, ask):
        """The pot that is made, looked at as far as it can be without walking."""
        told = made(many, ask)
        self.assertIs(type(told), tuple)
        pot, paper = told
        self.assertTrue(is_pot(pot), ask)
        self.assertEqual(len(pot[INPUTS]), many)
        self.assertTrue(len(pot[SORTS]) <= 8 and len(pot[RULES]) <= 8)
        self.assertEqual([pot[BEGIN][sort] for sort in pot[INPUTS]], [0] * many)
        self.assertIs(lets_paper(pot, ask, paper), True)
        return pot

    def ends(self, pot, ask, amounts, most):
        """From there all that comes is gone through, where it isn't too much; whether it was."""
        stands = all_from(pot, begun(pot, amounts), most)
        if stands is None:
            return False
        answers = {stand[pot[ANSWER]] for stand in stands if not leads(pot, stand)}
        self.assertEqual(answers, {asked(ask, amounts)}, (ask, amounts))
        return True

    def walks(self, chance, pot, ask, amounts):
        numbers = [chance.randrange(1000) for turn in range(23)]
        order, stand = chosen(pot, begun(pot, amounts), numbers, 2000)
        self.assertEqual(leads(pot, stand), [])
        self.assertEqual(stand[pot[ANSWER]], asked(ask, amounts), (ask, amounts))

    def made_and_walked(self, chance, many, ask):
        pot = self.made_rightly(many, ask)
        through = [
            self.ends(pot, ask, amounts, 150)
            for amounts in itertools.product(range(3), repeat=many) if sum(amounts) <= 2
        ]
        for most in (4, 9, 40):
            self.walks(chance, pot, ask, tuple(chance.randint(0, most) for place in range(many)))
        self.walks(chance, pot, ask, (40,) + (0,) * (many - 1))
        self.walks(chance, pot, ask, (0,) * (many - 1) + (40,))
        return through

    def test_sums(self):
        chance = random.Random(121)
        for many in (1, 2, 3):
            for line in edge_lines(many):
                through = self.made_and_walked(chance, many, ("sum", line))
                self.assertTrue(all(through))

    def test_parts(self):
        chance = random.Random(122)
        for many in (1, 2, 3):
            for line in edge_lines(many):
                for m in (2, 3, 6):
                    self.assertTrue(any(self.made_and_walked(chance, many, ("part", line, m))))

    def test_two_lines(self):
        chance = random.Random(123)
        for many in (1, 2, 3):
            for word in TWO_LINES:
                for one in edge_lines(many):
                    for other in edge_lines(many):
                        self.made_and_walked(chance, many, (word, one, other))

    def test_lines_alike(self):
        chance = random.Random(124)
        for word in TWO_LINES:
            for line in (noughts(1), ((3,), 9), ((1,), 0), ((0, 3), 0), ((1, 2, 3), 4), ((0, 0, 0), 9)):
                self.made_and_walked(chance, len(line[0]), (word, line, line))

    def test_lines_of_which_one_is_never_less(self):
        chance = random.Random(125)
        for word in TWO_LINES:
            for one, other in (
                (((2,), 0), ((1,), 0)), (((2,), 1), ((1,), 0)), (((2,), 0), ((2,), 1)), (((2,), 0), ((1,), 1)),
                (((1, 2), 0), ((1, 0), 0)), (((1, 2), 3), ((2, 2), 3)), (((0, 0), 0), ((3, 1), 0)),
                (((3, 1, 0), 2), ((3, 0, 0), 2)), (((1, 1, 1), 0), ((0, 0, 0), 9)), (((1, 0), 0), ((0, 1), 0)),
            ):
                self.made_and_walked(chance, len(one[0]), (word, one, other))
                self.made_and_walked(chance, len(one[0]), (word, other, one))

    def test_all_of_one_input(self):
        lines = [((by,), plus) for by in range(4) for plus in (0, 1, 4, 9)]
        for line in lines:
            self.made_rightly(1, ("sum", line))
            for m in range(2, 7):
                self.made_rightly(1, ("part", line, m))
            for other in lines:
                for word in TWO_LINES:
                    self.made_rightly(1, (word, line, other))

    def test_drawn_asks(self):
        chance = random.Random(126)
        for word in ("sum", "part") + TWO_LINES:
            for turn in range(25):
                many = chance.randint(1, 3)
                self.made_and_walked(chance, many, drawn_ask(chance, many, word))

    def test_they_are_judged_so(self):
        chance = random.Random(127)
        for word in ("sum", "part") + TWO_LINES:
            for many in (1, 2, 3):
                ask = drawn_ask(chance, many, word)
                pot = made(many, ask)[0]
                told = judged(pot, ask)
                self.assertEqual(told[0], "paper")
                self.assertIs(lets_paper(pot, ask, told[1]), True)

    def test_the_kinds_that_are_told(self):
        for ask in (("sum", ((1,), 0)), ("part", ((1,), 0), 2), ("same", ((1,), 0), ((2,), 1))):
            told = made(1, ask)
            for path in paths_of(told):
                self.assertIn(type(within(told, path)), (tuple, int, str))
            self.assertTrue(same_kind(made(1, ask), told))

    def test_nothing_is_changed(self):
        chance = random.Random(128)
        for word in ("sum", "part") + TWO_LINES:
            self.assertTrue(unchanged_by(made, 2, drawn_ask(chance, 2, word)))


if __name__ == "__main__":
    unittest.main()
