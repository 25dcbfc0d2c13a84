import random
import unittest
from unittest import mock

from dropsums import tableau
from dropsums.weighing import bears, meets, weighed
from dropsums.weights import is_weights
from dropsums.wholes import common_divisor
from helper import ODD_THINGS, same_kind, unchanged_by


def is_met(problem, tops, bottom):
    return all(sum(a * b for a, b in zip(by, tops)) + plus * bottom >= 0 for by, plus in problem)


def is_borne(many, problem, weights):
    totals = [0] * (many + 1)
    for number, times in weights:
        by, plus = problem[number]
        for place, value in enumerate(by + (plus,)):
            totals[place] += times * value
    return totals[:-1] == [0] * many and totals[-1] <= -1


def are_wholes(things):
    return all(type(thing) is int for thing in things)


def random_rows(chance, rows, many, size, dense=1.0):
    def number():
        return chance.randint(-size, size) if chance.random() < dense else 0

    return [(tuple(number() for place in range(many)), number()) for row in range(rows)]


def met_by(chance, point, rows):
    """The rows with plus put so that the point meets them all, some of them just so."""
    met = []
    for by, plus in rows:
        value = sum(a * b for a, b in zip(by, point))
        met.append((by, -value + chance.choice((0, 0, 1, abs(plus)))))
    return met


def with_a_no(chance, rows, size):
    """The rows and one more, such that some of them and it, weighed, come to nothing and below 0."""
    totals = [0] * (len(rows[0][0]) + 1)
    for by, plus in chance.sample(rows, min(len(rows), chance.randint(1, 6))):
        times = chance.randint(1, size)
        totals = [total + times * value for total, value in zip(totals, by + (plus,))]
    rows = rows + [(tuple(-total for total in totals[:-1]), -totals[-1] - chance.randint(1, size))]
    chance.shuffle(rows)
    return rows


class TestMeets(unittest.TestCase):
    def test_whole_numbers(self):
        problem = [((1, 0), -2), ((0, 1), -3), ((-1, -1), 5)]
        self.assertIs(meets(problem, (2, 3), 1), True)
        self.assertIs(meets(problem, (2, 2), 1), False)
        self.assertIs(meets(problem, (3, 3), 1), False)
        self.assertIs(meets(problem, (1, 4), 1), False)

    def test_bottoms_above_1(self):
        # Twice x is at least 1 and at most 1: a half alone meets it.
        problem = [((2,), -1), ((-2,), 1)]
        self.assertIs(meets(problem, (1,), 2), True)
        self.assertIs(meets(problem, (3,), 6), True)
        self.assertIs(meets(problem, (1,), 1), False)
        self.assertIs(meets(problem, (0,), 1), False)
        self.assertIs(meets(problem, (1,), 3), False)
        self.assertIs(meets([((3, -5), 7)], (-4, 3), 4), True)
        self.assertIs(meets([((3, -5), 6)], (-4, 3), 4), False)

    def test_rows_that_just_come_to_0(self):
        large = 10 ** 39
        self.assertIs(meets([((large, -1), -large)], (2, large), 1), True)
        self.assertIs(meets([((large, -1), -large)], (2, large + 1), 1), False)

    def test_no_rows_and_no_numbers(self):
        self.assertIs(meets([], (), 1), True)
        self.assertIs(meets([], (5, -5), 3), True)
        self.assertIs(meets([((), 0), ((), 3)], (), 2), True)
        self.assertIs(meets([((), 0), ((), -1)], (), 2), False)

    def test_bottoms_are_from_1_on(self):
        # Over 0 everything would be met by noughts.
        self.assertIs(meets([((1,), -1), ((-1,), 0)], (0,), 0), False)
        self.assertIs(meets([], (), 0), False)

    def test_below_0(self):
        self.assertIs(meets([((-1,), -1)], (-1,), 1), True)
        self.assertIs(meets([((-1,), -1)], (-1,), 2), False)


class TestBears(unittest.TestCase):
    problem = [((1, 0), 0), ((0, 1), 0), ((-2, -1), -1), ((-1, 0), 0), ((0, 0), -1), ((0, 0), 0)]

    def test_a_no(self):
        self.assertIs(bears(self.problem, ((0, 2), (1, 1), (2, 1))), True)
        self.assertIs(bears(self.problem, ((0, 20), (1, 10), (2, 10))), True)
        self.assertIs(bears(self.problem, ((4, 1),)), True)
        self.assertIs(bears(self.problem, ((4, 7), (5, 3))), True)

    def test_none(self):
        for weights in (
            (), ((0, 1),), ((2, 1),), ((0, 1), (1, 1), (2, 1)), ((0, 2), (2, 1)), ((0, 2), (1, 2), (2, 1)),
        ):
            self.assertIs(bears(self.problem, weights), False, weights)

    def test_0_at_plus(self):
        self.assertIs(bears(self.problem, ((0, 1), (3, 1))), False)
        self.assertIs(bears(self.problem, ((5, 1),)), False)
        self.assertIs(bears([((1,), 1), ((-1,), -1)], ((0, 1), (1, 1))), False)
        self.assertIs(bears([((1,), 1), ((-1,), -2)], ((0, 1), (1, 1))), True)
        self.assertIs(bears([((1,), 3), ((-1,), -2)], ((0, 1), (1, 1))), False)

    def test_numbers_beyond_the_rows(self):
        for number in (6, 7, 10 ** 39):
            self.assertIs(bears(self.problem, ((4, 1), (number, 1))), False)
            self.assertIs(bears(self.problem, ((number, 1),)), False)
        self.assertIs(bears([], ((0, 1),)), False)

    def test_void(self):
        self.assertIs(bears([], ()), False)
        self.assertIs(bears(self.problem, ()), False)

    def test_no_numbers(self):
        self.assertIs(bears([((), 4), ((), -1)], ((1, 1),)), True)
        self.assertIs(bears([((), 4), ((), -1)], ((0, 1), (1, 4))), False)
        self.assertIs(bears([((), 4), ((), -1)], ((0, 1), (1, 5))), True)

    def test_large_numbers(self):
        large = 10 ** 1000
        problem = [((large,), 0), ((-1,), -1)]
        self.assertIs(bears(problem, ((0, 1), (1, large))), True)
        self.assertIs(bears(problem, ((0, 1), (1, large + 1))), False)

    def test_what_are_no_weights_bears_nothing(self):
        # Else a row taken away, or one told twice, could bear what isn't so.
        problem = [((1,), 1), ((1,), 0)]
        for weights in (((0, -1), (1, 1)), ((4, 0),), ((1, 1), (0, -1)), ((-1, 1),), ((True, 1),)):
            self.assertIs(bears(problem, weights), False)


class TestWeighed(unittest.TestCase):
    def told(self, many, problem):
        """Which of both is told, looked at by hand and by what the program says of it."""
        answer = weighed(many, problem)
        self.assertIs(type(answer), tuple)
        if answer[0] == "numbers":
            word, tops, bottom = answer
            self.assertIs(type(tops), tuple)
            self.assertEqual(len(tops), many)
            self.assertTrue(are_wholes(tops + (bottom,)) and bottom >= 1)
            self.assertTrue(is_met(problem, tops, bottom))
            self.assertIs(meets(problem, tops, bottom), True)
        else:
            word, weights = answer
            self.assertEqual(word, "weights")
            self.assertTrue(is_weights(weights))
            self.assertTrue(is_borne(many, problem, weights))
            self.assertIs(bears(problem, weights), True)
        return answer[0]

    def test_no_rows(self):
        for many in (0, 1, 5, 40):
            self.assertEqual(self.told(many, []), "numbers")

    def test_no_numbers(self):
        self.assertEqual(self.told(0, [((), 0), ((), 3)]), "numbers")
        self.assertEqual(self.told(0, [((), 0), ((), 3), ((), -1)]), "weights")

    def test_rows_of_noughts(self):
        for many in (0, 1, 3):
            noughts = (0,) * many
            for plus, word in ((-5, "weights"), (-1, "weights"), (0, "numbers"), (1, "numbers")):
                self.assertEqual(self.told(many, [(noughts, plus)]), word)
                self.assertEqual(self.told(many, [(noughts, 2), (noughts, plus), (noughts, 0)]), word)
        self.assertEqual(self.told(2, [((1, 1), -3), ((0, 0), -1), ((-1, 0), 4)]), "weights")

    def test_small_ones(self):
        for many, problem, word in (
            (1, [((1,), -5), ((-1,), 5)], "numbers"),
            (1, [((1,), -5), ((-1,), 4)], "weights"),
            (1, [((2,), -1), ((-2,), 1)], "numbers"),
            (1, [((3,), 7), ((-3,), -7)], "numbers"),
            (1, [((3,), 7), ((-3,), -8)], "weights"),
            (2, [((1, -1), -1), ((-1, 1), 0)], "weights"),
            (2, [((1, -1), 0), ((-1, 1), 0)], "numbers"),
            (2, [((1, 1), -2), ((1, -1), 0), ((-3, -1), 3)], "weights"),
            (2, [((1, 1), -2), ((1, -1), 0), ((-3, -1), 4)], "numbers"),
            (3, [((1, -1, 0), -1), ((0, 1, -1), -1), ((-1, 0, 1), 2)], "numbers"),
            (3, [((1, -1, 0), -1), ((0, 1, -1), -1), ((-1, 0, 1), 1)], "weights"),
            (3, [((0, 0, 1), -1), ((0, 0, -1), 9)], "numbers"),
        ):
            self.assertEqual(self.told(many, problem), word, problem)

    def test_numbers_with_a_bottom(self):
        answer = weighed(2, [((3, 0), -1), ((-3, 0), 1), ((0, 7), 2), ((0, -7), -2)])
        self.assertEqual(answer, ("numbers", (7, -6), 21))

    def test_just_one_of_both(self):
        # Rows of such small numbers meet in halves from -2 to 2, so a grid of halves tells whether there is a point.
        rows = [((a, b), plus) for a in (-1, 0, 1) for b in (-1, 0, 1) for plus in (-1, 0, 1)]
        chance = random.Random(8)
        grid = [(x, y) for x in range(-4, 5) for y in range(-4, 5)]
        words = set()
        for turn in range(1500):
            problem = [chance.choice(rows) for row in range(4)]
            word = self.told(2, problem)
            words.add(word)
            on_grid = any(is_met(problem, point, 2) for point in grid)
            self.assertEqual(word, "numbers" if on_grid else "weights", problem)
        self.assertEqual(words, {"numbers", "weights"})

    def test_rows_twice_and_in_another_order(self):
        chance = random.Random(9)
        words = []
        for turn in range(150):
            many = chance.randint(1, 5)
            problem = random_rows(chance, chance.randint(1, 9), many, 4, 0.7)
            word = self.told(many, problem)
            words.append(word)
            self.assertEqual(self.told(many, problem + problem), word)
            other = problem + problem[:2]
            chance.shuffle(other)
            self.assertEqual(self.told(many, other), word)
        self.assertTrue(20 < words.count("weights") < 130)

    def test_a_point_is_known(self):
        chance = random.Random(10)
        for rows, many, size, dense in (
            (5, 3, 9, 1), (20, 6, 9, 0.4), (40, 12, 99, 0.5), (60, 20, 3, 1), (100, 40, 5, 0.2), (100, 40, 9, 1),
            (12, 5, 10 ** 30, 1), (30, 10, 10 ** 39, 1), (50, 14, 10 ** 34, 0.5), (100, 8, 10 ** 36, 1), (3, 40, 9, 1),
        ):
            for turn in range(3):
                point = [chance.randint(-9, 9) for place in range(many)]
                problem = met_by(chance, point, random_rows(chance, rows, many, size, dense))
                self.assertEqual(self.told(many, problem), "numbers")

    def test_a_no_is_known(self):
        chance = random.Random(11)
        for rows, many, size, dense in (
            (5, 3, 9, 1), (20, 6, 9, 0.4), (40, 12, 99, 0.5), (59, 20, 3, 1), (99, 40, 5, 0.2), (99, 40, 9, 1),
            (12, 5, 10 ** 30, 1), (30, 10, 10 ** 30, 1), (50, 14, 10 ** 34, 0.5), (99, 8, 10 ** 36, 1), (3, 40, 9, 1),
        ):
            for turn in range(3):
                problem = with_a_no(chance, random_rows(chance, rows, many, size, dense), 9)
                self.assertEqual(self.told(many, problem), "weights")

    def test_the_largest(self):
        chance = random.Random(15)
        point = [chance.randint(-9, 9) for place in range(40)]
        problem = met_by(chance, point, random_rows(chance, 100, 40, 10 ** 30))
        self.assertEqual(self.told(40, problem), "numbers")
        problem = with_a_no(chance, random_rows(chance, 99, 40, 10 ** 30), 9)
        self.assertEqual(self.told(40, problem), "weights")

    def test_a_no_behind_a_point(self):
        # The point meets all rows just so far; a last row asks for a little more than they allow.
        chance = random.Random(12)
        for turn in range(60):
            many = chance.randint(1, 6)
            point = [chance.randint(-9, 9) for place in range(many)]
            rows = met_by(chance, point, random_rows(chance, chance.randint(1, 12), many, 9))
            totals = [sum(row[0][place] for row in rows) for place in range(many)]
            plus = sum(row[1] for row in rows)
            edge = tuple(-total for total in totals)
            self.assertEqual(self.told(many, rows + [(edge, -plus - 1)]), "weights")
            self.assertEqual(self.told(many, rows + [(edge, sum(a * b for a, b in zip(totals, point)))]), "numbers")

    def test_many_that_just_come_to_0(self):
        # Pairs of rows that leave each other no room, most of them at 0: turns that move nothing.
        chance = random.Random(13)
        for turn in range(40):
            many = chance.randint(2, 12)
            half = [(by, 0) for by, plus in random_rows(chance, many, many, 2, 0.3)]
            problem = half + [(tuple(-value for value in by), 0) for by, plus in half]
            self.assertEqual(self.told(many, problem), "numbers")
            self.told(many, problem + [(tuple(chance.randint(0, 1) for place in range(many)), -1)])

    def test_by_plain_turns_alone(self):
        with mock.patch.object(tableau, "QUICK_TURNS", 0):
            self.test_small_ones()
            self.test_rows_of_noughts()
            self.test_just_one_of_both()
            self.test_rows_twice_and_in_another_order()
            self.test_many_that_just_come_to_0()
            self.test_a_no_behind_a_point()

    def test_turns_are_counted(self):
        # By them the plain choice takes over, which never goes round for ever.
        table = tableau.Tableau(2, [((1, 2), -3), ((3, -1), -4)])
        for turn in range(2):
            self.assertEqual(table.turns, turn)
            row = table.low_row()
            table.turn(row, table.column_for(row))
        self.assertEqual(table.turns, 2)
        self.assertIsNone(table.low_row())
        self.assertEqual(table.met(), ((11, 5), 7))

    def test_what_was_told_is_handed_in_again(self):
        chance = random.Random(14)
        problem = met_by(chance, [5] * 8, random_rows(chance, 20, 8, 10 ** 39))
        word, tops, bottom = weighed(8, problem)
        self.assertTrue(max(map(abs, tops)) > 10 ** 40 or bottom > 10 ** 40)
        again = [(tops, -bottom), (tuple(-top for top in tops), bottom)]
        self.assertEqual(self.told(8, again), "numbers")
        self.assertEqual(self.told(8, again + [(tuple(-top for top in tops), bottom - 1)]), "weights")

    def test_nothing_is_changed(self):
        problem = [((1, 2), 3), ((-1, -2), -4), ((0, 1), 0)]
        self.assertTrue(unchanged_by(weighed, 2, problem))
        self.assertTrue(unchanged_by(meets, problem, (1, 2), 3))
        self.assertTrue(unchanged_by(bears, problem, ((0, 1), (1, 1))))
        self.assertTrue(same_kind(weighed(2, problem), weighed(2, list(problem))))


class TestWeightsKind(unittest.TestCase):
    def test_weights(self):
        for weights in ((), ((0, 1),), ((3, 10 ** 39),), ((0, 1), (1, 1), (7, 2))):
            self.assertIs(is_weights(weights), True)

    def test_none(self):
        for thing in (
            [], [(0, 1)], ([0, 1],), ((0, 0),), ((0, -1),), ((-1, 1),), ((True, 1),), ((0, True),), ((False, 1),),
            ((0,),), ((0, 1, 1),), ((0, 1), (0, 1)), ((1, 1), (0, 1)), ((0, 1), None), ((None, 1),), (("0", 1),), (0, 1),
            "", "01", None, {}, {0: 1}, ((0, 1), (2, 1), (1, 1)),
        ):
            self.assertIs(is_weights(thing), False, thing)

    def test_odd_things(self):
        for thing in ODD_THINGS:
            self.assertIs(is_weights(thing), thing == (), thing)


class TestCommonDivisor(unittest.TestCase):
    def test_divisors(self):
        for numbers, divisor in (
            ([], 0), ([0], 0), ([0, 0], 0), ([5], 5), ([-5], 5), ([4, 6], 2), ([6, 4], 2), ([0, 9], 9), ([9, 0, 6], 3),
            ([-12, 18, 30], 6), ([7, 5], 1), ([10 ** 40, 15 * 10 ** 38], 5 * 10 ** 38), ((1, 0), 1),
        ):
            self.assertEqual(common_divisor(numbers), divisor, numbers)


if __name__ == "__main__":
    unittest.main()
