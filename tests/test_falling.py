import random
import unittest

from dropsums.falling import falls, first_not_lowered, height_of, is_round
from dropsums.orders import chosen
from helper import (
    GREATER, HALF, HELPED, LARGE, LESSER, MORE, POTS, SAME, STILL, SUM, added_up, random_pot, same_kind, unchanged_by,
)

SORTS, RULES = 0, 1


def pot_of(*rules):
    many = len(rules[0][0])
    return (tuple("abcdefgh"[:many]), rules, (), (0,) * many, 0)


# Two rules that turn back one another.
BACK = pot_of(((1, 0), (0, 1)), ((0, 1), (1, 0)))

# Two a become three b, three b become one a: an a less with each two.
DOWN = pot_of(((2, 0), (0, 3)), ((0, 3), (1, 0)))

# Three b become two a again, or three of them.
LEVEL = pot_of(((2, 0), (0, 3)), ((0, 3), (2, 0)))
UP = pot_of(((2, 0), (0, 3)), ((0, 3), (3, 0)))

# A helper h is taken and given again.
BY_HELP = pot_of(((1, 0, 1), (0, 1, 1)))
HELP_MADE = pot_of(((1, 0, 1), (0, 1, 1)), ((0, 1, 0), (0, 0, 1)))
HELP_ROUND = pot_of(((1, 0, 1), (0, 1, 1)), ((0, 1, 0), (1, 0, 0)))
GROWS = pot_of(((1, 0), (2, 0)))
GROWS_OTHER = pot_of(((1, 0), (1, 1)))
GROWS_LARGER = pot_of(((1, 0), (0, 9)))


class TestHeights(unittest.TestCase):
    def test_heights(self):
        self.assertTrue(same_kind(height_of((1, 2, 3), (10, 20, 30)), 140))
        self.assertEqual(height_of((0, 0), (7, 9)), 0)
        self.assertEqual(height_of((5,), (0,)), 0)
        self.assertEqual(height_of((10 ** 39, 1), (10 ** 12, 1)), 10 ** 51 + 1)

    def told(self, pot, heights, rule):
        self.assertTrue(same_kind(first_not_lowered(pot, heights), rule), heights)

    def test_all_lowered(self):
        self.told(LESSER, (1, 1, 1), None)
        self.told(LESSER, (1, 0, 0), None)
        self.told(HALF, (1, 1), None)
        self.told(DOWN, (5, 3), None)
        self.told(LARGE, (0, 0, 0, 1, 0, 0, 0, 0), None)
        self.told(BY_HELP, (1, 0, 10 ** 39), None)
        self.told(STILL, (0,), None)
        self.told(STILL, (9,), None)

    def test_a_rule_that_raises_it(self):
        self.told(LESSER, (1, 1, 3), 0)
        self.told(GROWS, (1, 0), 0)
        self.told(DOWN, (5, 4), 0)

    def test_a_rule_that_leaves_it_as_it_is(self):
        self.told(LESSER, (1, 1, 2), 0)
        self.told(LESSER, (0, 0, 0), 0)
        self.told(HALF, (1, 2), 0)
        self.told(BACK, (1, 1), 0)
        self.told(BY_HELP, (0, 0, 7), 0)
        self.told(LARGE, (0,) * 8, 0)

    def test_the_first_one(self):
        self.told(BACK, (2, 1), 1)
        self.told(BACK, (1, 2), 0)
        self.told(DOWN, (6, 2), 1)
        self.told(DOWN, (8, 2), 1)
        self.told(SAME, (2, 2, 2, 1, 1), None)
        self.told(SAME, (1, 1, 1, 0, 1), 0)
        self.told(SAME, (2, 2, 3, 1, 1), 1)
        self.told(SAME, (3, 2, 2, 1, 1), 2)
        self.told(SAME, (3, 3, 2, 1, 1), 3)
        self.told(SAME, (3, 4, 9, 2, 7), None)
        self.told(SAME, (3, 4, 1, 2, 7), 3)

    def test_any_pot(self):
        chance = random.Random(31)
        for turn in range(300):
            pot = random_pot(chance, most=3)
            heights = tuple(chance.randint(0, 9) for sort in pot[SORTS])
            not_lowered = [
                rule for rule, (takes, gives) in enumerate(pot[RULES])
                if added_up(heights, gives) - added_up(heights, takes) > -1
            ]
            self.told(pot, heights, not_lowered[0] if not_lowered else None)


class TestFalls(unittest.TestCase):
    def told(self, pot):
        """Which of both is told, looked at by hand."""
        answer = falls(pot)
        self.assertIs(type(answer), tuple)
        word, numbers = answer
        self.assertIs(type(numbers), tuple)
        self.assertTrue(all(type(number) is int and number >= 0 for number in numbers))
        if word == "falls":
            self.assertEqual(len(numbers), len(pot[SORTS]))
            for takes, gives in pot[RULES]:
                self.assertTrue(added_up(numbers, takes) > added_up(numbers, gives))
            self.assertIsNone(first_not_lowered(pot, numbers))
        else:
            self.assertEqual(word, "round")
            self.assertEqual(len(numbers), len(pot[RULES]))
            self.assertTrue(any(numbers))
            for sort in range(len(pot[SORTS])):
                taken = sum(often * takes[sort] for often, (takes, gives) in zip(numbers, pot[RULES]))
                given = sum(often * gives[sort] for often, (takes, gives) in zip(numbers, pot[RULES]))
                self.assertTrue(given >= taken)
            self.assertIs(is_round(pot, numbers), True)
        return word

    def test_pots(self):
        for pot, word in (
            (LESSER, "falls"), (HALF, "falls"), (SUM, "falls"), (GREATER, "falls"), (MORE, "falls"), (SAME, "falls"),
            (LARGE, "falls"), (DOWN, "falls"), (LEVEL, "round"), (UP, "round"), (BACK, "round"), (HELPED, "falls"),
            (BY_HELP, "falls"), (HELP_MADE, "falls"), (HELP_ROUND, "round"), (GROWS, "round"), (GROWS_OTHER, "round"),
            (GROWS_LARGER, "falls"),
        ):
            self.assertEqual(self.told(pot), word, pot)

    def test_no_rules(self):
        self.assertEqual(self.told(STILL), "falls")
        for many in range(1, 9):
            self.assertEqual(self.told((tuple("abcdefgh"[:many]), (), (), (0,) * many, 0)), "falls")

    def test_a_long_way_down(self):
        # Each sort has to be higher than nine of the next one.
        many = 8
        rules = tuple(
            (tuple(1 if k == sort else 0 for k in range(many)), tuple(9 if k == sort + 1 else 0 for k in range(many)))
            for sort in range(many)
        )
        self.assertEqual(self.told(pot_of(*rules)), "falls")
        # Of the last one nine first ones are made: it never ends.
        first = (rules[-1][0], (1,) + (0,) * 7)
        self.assertEqual(self.told(pot_of(*rules[:-1], first)), "round")

    def test_a_round_of_many_rules(self):
        many = 8
        rules = tuple(
            (tuple(1 if k == sort else 0 for k in range(many)), tuple(1 if k == (sort + 1) % 8 else 0 for k in range(8)))
            for sort in range(many)
        )
        self.assertEqual(self.told(pot_of(*rules)), "round")
        self.assertEqual(self.told(pot_of(*rules[:-1])), "falls")

    def test_just_one_of_both(self):
        chance = random.Random(32)
        words = []
        for turn in range(500):
            pot = random_pot(chance, most=chance.choice((1, 2, 3, 9)))
            words.append(self.told(pot))
        self.assertTrue(100 < words.count("round") < 400)

    def test_no_round_where_it_falls(self):
        chance = random.Random(33)
        for turn in range(100):
            pot = random_pot(chance, most_sorts=3, most_rules=3, most=2)
            told = falls(pot)[0]
            rounds = [times for times in self.few_times(len(pot[RULES])) if is_round(pot, times)]
            self.assertFalse(told == "falls" and rounds)

    def few_times(self, many):
        if many == 0:
            return [()]
        return [times + (often,) for times in self.few_times(many - 1) for often in range(5)]

    def test_what_falls_ends(self):
        chance = random.Random(34)
        for turn in range(200):
            pot = random_pot(chance, most_sorts=4, most_rules=4, most=2)
            word, heights = falls(pot)
            if word == "falls":
                stand = tuple(chance.randint(0, 4) for sort in pot[SORTS])
                high = height_of(heights, stand)
                order, end = chosen(pot, stand, [chance.randrange(12) for k in range(7)], high + 1)
                self.assertTrue(len(order) <= high)

    def test_nothing_is_changed(self):
        for pot in POTS:
            self.assertTrue(unchanged_by(falls, pot))
            self.assertTrue(unchanged_by(first_not_lowered, pot, (1,) * len(pot[SORTS])))
            self.assertTrue(same_kind(falls(pot), falls(pot)))


class TestRound(unittest.TestCase):
    def test_noughts_alone(self):
        for pot in POTS + (BACK, GROWS):
            self.assertIs(is_round(pot, (0,) * len(pot[RULES])), False)
        self.assertIs(is_round(STILL, ()), False)

    def test_rounds(self):
        for pot, times, right in (
            (BACK, (1, 1), True), (BACK, (7, 7), True), (BACK, (1, 0), False), (BACK, (0, 1), False),
            (BACK, (7, 6), False), (BACK, (6, 7), False), (LEVEL, (1, 1), True), (LEVEL, (2, 1), False),
            (UP, (1, 1), True), (UP, (3, 3), True), (UP, (3, 2), True), (UP, (2, 3), False), (DOWN, (1, 1), False),
            (DOWN, (1, 2), False), (DOWN, (2, 1), False), (DOWN, (9, 9), False),
            (BACK, (10 ** 39, 10 ** 39), True), (BACK, (10 ** 39, 10 ** 39 - 1), False),
        ):
            self.assertIs(is_round(pot, times), right, (pot, times))

    def test_more_given_than_taken(self):
        self.assertIs(is_round(GROWS, (1,)), True)
        self.assertIs(is_round(GROWS, (5,)), True)
        self.assertIs(is_round(GROWS_OTHER, (1,)), True)
        self.assertIs(is_round(GROWS_LARGER, (1,)), False)

    def test_taken_and_given_again(self):
        self.assertIs(is_round(HELP_ROUND, (1, 1)), True)
        self.assertIs(is_round(HELP_ROUND, (2, 1)), False)
        self.assertIs(is_round(BY_HELP, (1,)), False)

    def test_one_time_less(self):
        # Two of the first and one of each other go round; with one time less some sort is short.
        pot = pot_of(((1, 0, 0), (0, 1, 0)), ((0, 2, 0), (0, 0, 1)), ((0, 0, 1), (2, 0, 0)))
        self.assertIs(is_round(pot, (2, 1, 1)), True)
        for times in ((1, 1, 1), (2, 0, 1), (2, 1, 0)):
            self.assertIs(is_round(pot, times), False)

    def test_nothing_is_changed(self):
        self.assertTrue(unchanged_by(is_round, BACK, (1, 1)))


if __name__ == "__main__":
    unittest.main()
