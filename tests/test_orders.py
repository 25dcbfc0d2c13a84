import random
import unittest

from dropsums.errors import NoStep
from dropsums.orders import chosen, stands_on, walked
from dropsums.steps import can_go, gone, has_ended, rules_there
from helper import HALF, HELPED, LESSER, STILL, random_pot, same_kind, unchanged_by

# Two rules that go round, and one that ends.
ROUND = (("a", "b", "c"), (((1, 0, 0), (0, 1, 0)), ((0, 1, 0), (1, 0, 0)), ((1, 1, 0), (0, 0, 1))), (0,), (0, 0, 0), 2)


class TestWalked(unittest.TestCase):
    def leads(self, pot, order, stands):
        for given in (tuple(order), list(order)):
            self.assertTrue(same_kind(walked(pot, stands[0], given), stands[-1]))
            self.assertTrue(same_kind(stands_on(pot, stands[0], given), stands))

    def refused(self, pot, stand, order, place):
        for given in (tuple(order), list(order)):
            for call in (walked, stands_on):
                with self.assertRaises(NoStep) as taken:
                    call(pot, stand, given)
                self.assertTrue(same_kind(taken.exception.place, place), order)

    def test_void_orders(self):
        self.leads(LESSER, (), [(3, 4, 5)])
        self.leads(STILL, (), [(5,)])

    def test_orders(self):
        self.leads(LESSER, (0, 0), [(2, 3, 0), (1, 2, 1), (0, 1, 2)])
        self.leads(ROUND, (0, 1, 0, 2), [(2, 0, 0), (1, 1, 0), (2, 0, 0), (1, 1, 0), (0, 0, 1)])
        self.leads(HELPED, (0, 1, 2), [(2, 0, 3), (0, 1, 3), (1, 0, 3), (1, 9, 0)])

    def test_as_many_stands_and_one_more(self):
        stands = stands_on(HALF, (4000, 0), (0,) * 2000)
        self.assertEqual(len(stands), 2001)
        self.assertEqual(stands[0], (4000, 0))
        self.assertEqual(stands[-1], (0, 2000))

    def test_the_first_place_that_cannot_go(self):
        self.refused(LESSER, (2, 3, 0), (0, 0, 0, 0), 2)
        self.refused(LESSER, (0, 3, 0), (0,), 0)
        self.refused(ROUND, (1, 0, 0), (0, 1, 1, 2), 2)
        self.refused(ROUND, (1, 0, 0), (2, 7, -1), 0)

    def test_numbers_that_are_no_rules(self):
        for number in (-1, -3, 3, 8, 10 ** 39, -(10 ** 39)):
            self.refused(ROUND, (9, 9, 9), (number,), 0)
            self.refused(ROUND, (9, 9, 9), (0, 2, number, 1), 2)
        self.refused(STILL, (5,), (0,), 0)

    def test_told_lists_are_the_askers_own(self):
        told = stands_on(LESSER, (2, 3, 0), (0,))
        told[0] = None
        told.clear()
        self.assertEqual(stands_on(LESSER, (2, 3, 0), (0,)), [(2, 3, 0), (1, 2, 1)])

    def test_nothing_is_changed(self):
        for order in ([0, 1, 0, 2], [0, 0, 0, 7], []):
            self.assertTrue(unchanged_by(walked, ROUND, (2, 0, 0), order))
            self.assertTrue(unchanged_by(stands_on, ROUND, (2, 0, 0), order))


class TestChosen(unittest.TestCase):
    def told(self, pot, stand, numbers, most, order, end):
        self.assertTrue(same_kind(chosen(pot, stand, numbers, most), (order, end)), (stand, numbers, most))

    def test_the_rest_is_the_place(self):
        # At (1, 1, 0) all three rules can go.
        for number, rule in ((0, 0), (1, 1), (2, 2), (3, 0), (5, 2), (10 ** 39 + 1, (10 ** 39 + 1) % 3)):
            self.told(ROUND, (1, 1, 0), [number], 1, (rule,), gone(ROUND, (1, 1, 0), rule))

    def test_the_place_is_among_those_that_can_go(self):
        # Of the rules 0 and 2 alone the one at place 1 is rule 2.
        self.told(HELPED, (2, 0, 3), [1], 1, (2,), (2, 9, 0))
        self.told(HELPED, (2, 0, 3), [2], 1, (0,), (0, 1, 3))

    def test_begun_anew(self):
        # Rules 0 and 1 can go by turns, the numbers are used one behind the other, begun anew at their end.
        self.told(ROUND, (1, 0, 0), [0], 4, (0, 1, 0, 1), (1, 0, 0))
        self.told(ROUND, (3, 0, 0), [0, 1, 2], 4, (0, 1, 0, 0), (1, 2, 0))

    def test_one_number_at_each_stand(self):
        # At (3, 0, 0) one rule alone can go: its number is used all the same.
        self.told(ROUND, (3, 0, 0), [5, 2], 2, (0, 2), (1, 0, 1))

    def test_ends_where_none_can_go(self):
        self.told(LESSER, (3, 5, 0), [4, 1], 100, (0, 0, 0), (0, 2, 3))
        self.told(LESSER, (0, 5, 0), [4], 100, (), (0, 5, 0))
        self.told(STILL, (5,), [0], 7, (), (5,))

    def test_ends_behind_so_many(self):
        self.told(LESSER, (3, 5, 0), [0], 2, (0, 0), (1, 3, 2))
        self.told(LESSER, (3, 5, 0), [0], 3, (0, 0, 0), (0, 2, 3))
        order, stand = chosen(ROUND, (1, 0, 0), [0], 2000)
        self.assertEqual((len(order), stand), (2000, (1, 0, 0)))

    def test_most_0(self):
        self.told(ROUND, (1, 1, 0), [0, 1], 0, (), (1, 1, 0))

    def test_any_pot(self):
        chance = random.Random(6)
        for turn in range(300):
            pot = random_pot(chance, most_sorts=4, most=2)
            stand = tuple(chance.randint(0, 9) for sort in pot[0])
            numbers = [chance.choice((0, 1, 2, 3, 7, 10 ** 12 + 1)) for k in range(chance.randint(1, 5))]
            most = chance.choice((0, 1, 5, 30))
            order, end = chosen(pot, stand, numbers, most)
            stands = stands_on(pot, stand, order)
            self.assertEqual(stands[-1], end)
            self.assertTrue(len(order) == most or len(order) < most and has_ended(pot, end))
            for place, rule in enumerate(order):
                free = rules_there(pot, stands[place])
                self.assertEqual(rule, free[numbers[place % len(numbers)] % len(free)])

    def test_nothing_is_changed(self):
        self.assertTrue(unchanged_by(chosen, ROUND, (3, 0, 0), [0, 1, 2], 9))


class TestExchange(unittest.TestCase):
    def test_each_rule_as_often_leads_to_one_stand(self):
        chance = random.Random(7)
        met = 0
        for turn in range(300):
            pot = random_pot(chance, most_sorts=4, most_rules=4, most=2)
            stand = tuple(chance.randint(0, 9) for sort in pot[0])
            order, end = chosen(pot, stand, [chance.randrange(12) for k in range(9)], 12)
            other = self.walkable(chance, pot, stand, list(order))
            if other is not None:
                met += other != order
                self.assertEqual(walked(pot, stand, other), end)
        self.assertTrue(met > 20)

    def walkable(self, chance, pot, stand, left):
        """Another order of the same rules that can be walked, if taking those that can go by chance finds one."""
        order = []
        while left:
            free = [rule for rule in left if can_go(pot, stand, rule)]
            if not free:
                return None
            rule = chance.choice(free)
            left.remove(rule)
            order.append(rule)
            stand = gone(pot, stand, rule)
        return tuple(order)


if __name__ == "__main__":
    unittest.main()
