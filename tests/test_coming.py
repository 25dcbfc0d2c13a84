import itertools
import random
import unittest

from dropsums.coming import all_from, can_come, ended_of, orders_from
from dropsums.orders import walked
from dropsums.pots import beginning
from dropsums.steps import has_ended
from helper import GREATER, HALF, HELPED, LESSER, MORE, SAME, STILL, leads, random_pot, same_kind, unchanged_by

SORTS = 0

# An a becomes a b or a c; b and c become one another; two c become a d.
FORKS = (
    ("a", "b", "c", "d"),
    (
        ((1, 0, 0, 0), (0, 1, 0, 0)), ((1, 0, 0, 0), (0, 0, 1, 0)), ((0, 1, 0, 0), (0, 0, 1, 0)),
        ((0, 0, 1, 0), (0, 1, 0, 0)), ((0, 0, 2, 0), (0, 0, 0, 1)),
    ),
    (0,),
    (0, 0, 0, 0),
    3,
)
GROWS = (("a",), (((1,), (2,)),), (), (1,), 0)
CHAIN = (("a", "b"), (((1, 0), (0, 1)),), (0,), (0, 0), 1)


def come(pot, stand, most):
    """Point 40 by hand: the stands and their orders, or None for both."""
    stands, orders = [stand], [()]
    place = 0
    while place < len(stands) and len(stands) <= most:
        for rule, led in leads(pot, stands[place]):
            if led not in stands:
                stands.append(led)
                orders.append(orders[place] + (rule,))
        place += 1
    return (None, None) if len(stands) > most else (stands, orders)


class TestAllFrom(unittest.TestCase):
    def told(self, pot, stand, most, stands, orders):
        self.assertTrue(same_kind(all_from(pot, stand, most), stands), (stand, most))
        self.assertTrue(same_kind(orders_from(pot, stand, most), orders), (stand, most))

    def test_in_their_order(self):
        self.told(LESSER, (2, 3, 0), 9, [(2, 3, 0), (1, 2, 1), (0, 1, 2)], [(), (0,), (0, 0)])
        self.told(STILL, (5,), 1, [(5,)], [()])
        self.told(
            FORKS, (1, 0, 0, 0), 9, [(1, 0, 0, 0), (0, 1, 0, 0), (0, 0, 1, 0)], [(), (0,), (1,)],
        )
        self.told(
            FORKS, (2, 0, 0, 0), 2000,
            [
                (2, 0, 0, 0), (1, 1, 0, 0), (1, 0, 1, 0), (0, 2, 0, 0), (0, 1, 1, 0), (0, 0, 2, 0), (0, 0, 0, 1),
            ],
            [(), (0,), (1,), (0, 0), (0, 1), (1, 1), (1, 1, 4)],
        )

    def test_the_first_one_it_came_by(self):
        # The second stand comes by rule 1 from the first one ahead of all others.
        pot = (("a", "b"), (((1, 0), (0, 2)), ((1, 0), (0, 1)), ((0, 2), (0, 1))), (), (1, 0), 0)
        self.told(pot, (1, 0), 5, [(1, 0), (0, 2), (0, 1)], [(), (0,), (1,)])

    def test_rules_that_go_round(self):
        pot = (("a", "b"), (((1, 0), (0, 1)), ((0, 1), (1, 0))), (), (1, 0), 0)
        self.told(pot, (1, 0), 2, [(1, 0), (0, 1)], [(), (0,)])
        self.told(pot, (0, 1), 2, [(0, 1), (1, 0)], [(), (1,)])
        self.told(pot, (0, 1), 1, None, None)

    def test_as_many_as_most_and_one_more(self):
        for many in (1, 2, 5, 400, 1999, 2000):
            stands = [(many - 1 - k, k) for k in range(many)]
            orders = [(0,) * k for k in range(many)]
            self.told(CHAIN, (many - 1, 0), many, stands, orders)
            self.told(CHAIN, (many, 0), many, None, None)
            if many > 1:
                self.told(CHAIN, (many - 1, 0), many - 1, None, None)

    def test_most_1(self):
        self.told(LESSER, (0, 9, 9), 1, [(0, 9, 9)], [()])
        self.told(LESSER, (1, 1, 0), 1, None, None)

    def test_pots_that_grow(self):
        for most in (1, 2, 400, 2000):
            self.told(GROWS, (1,), most, None, None)
        self.told(GROWS, (0,), 1, [(0,)], [()])

    def test_large_counts(self):
        large = 10 ** 12
        self.told(LESSER, (2, large, large), 3, [(2, large, large), (1, large - 1, large + 1), (0, large - 2, large + 2)],
                  [(), (0,), (0, 0)])
        self.told(LESSER, (large, large, 0), 2000, None, None)

    def test_any_pot(self):
        chance = random.Random(111)
        nones = 0
        for turn in range(300):
            pot = random_pot(chance, most_sorts=4, most_rules=4, most=2)
            stand = tuple(chance.randint(0, 4) for sort in pot[SORTS])
            most = chance.choice((1, 5, 60))
            stands, orders = come(pot, stand, most)
            self.told(pot, stand, most, stands, orders)
            if stands is None:
                nones += 1
                continue
            for there, order in zip(stands, orders):
                self.assertEqual(walked(pot, stand, order), there)
            self.told(pot, stand, len(stands), stands, orders)
            if len(stands) > 1:
                self.told(pot, stand, len(stands) - 1, None, None)
        self.assertTrue(30 < nones < 200)

    def test_reckoners(self):
        for pot in (LESSER, HALF, GREATER, MORE, SAME, FORKS):
            for amounts in itertools.product(range(3), repeat=len(pot[2])):
                stand = beginning(pot, amounts)
                self.told(pot, stand, 2000, *come(pot, stand, 2000))

    def test_told_lists_are_the_askers_own(self):
        for call in (all_from, orders_from):
            told = call(FORKS, (2, 0, 0, 0), 20)
            kept = list(told)
            told[0] = None
            told.pop()
            self.assertEqual(call(FORKS, (2, 0, 0, 0), 20), kept)

    def test_nothing_is_changed(self):
        self.assertTrue(unchanged_by(all_from, FORKS, (2, 0, 0, 0), 20))
        self.assertTrue(unchanged_by(orders_from, FORKS, (2, 0, 0, 0), 20))


class TestEnded(unittest.TestCase):
    def test_in_the_order_of_stands(self):
        stands = [(0, 3, 1), (1, 1, 0), (5, 0, 0), (0, 0, 0), (2, 2, 2)]
        self.assertTrue(same_kind(ended_of(LESSER, stands), [(0, 3, 1), (5, 0, 0), (0, 0, 0)]))
        self.assertTrue(same_kind(ended_of(LESSER, stands[::-1]), [(0, 0, 0), (5, 0, 0), (0, 3, 1)]))
        self.assertTrue(same_kind(ended_of(LESSER, []), []))
        self.assertTrue(same_kind(ended_of(LESSER, [(1, 1, 1)]), []))
        self.assertTrue(same_kind(ended_of(STILL, [(5,), (0,)]), [(5,), (0,)]))

    def test_any_pot(self):
        chance = random.Random(112)
        for turn in range(100):
            pot = random_pot(chance, most_sorts=4, most_rules=3, most=2)
            stands = [tuple(chance.randint(0, 2) for sort in pot[SORTS]) for stand in range(20)]
            self.assertEqual(ended_of(pot, stands), [stand for stand in stands if not leads(pot, stand)])
            self.assertEqual(ended_of(pot, stands), [stand for stand in stands if has_ended(pot, stand)])

    def test_nothing_is_changed(self):
        stands = [(0, 3, 1), (1, 1, 0)]
        self.assertTrue(unchanged_by(ended_of, LESSER, stands))
        told = ended_of(LESSER, stands)
        told.clear()
        self.assertEqual(ended_of(LESSER, stands), [(0, 3, 1)])


class TestCanCome(unittest.TestCase):
    def told(self, pot, stands, goals, answer):
        self.assertTrue(same_kind(can_come(pot, stands, goals), answer), goals)

    def by_hand(self, pot, stands, goals):
        found = {goal for goal in goals if goal in stands}
        while True:
            more = {stand for stand in stands if any(led in found for rule, led in leads(pot, stand))} - found
            if not more:
                return sorted(found)
            found |= more

    def test_a_chain(self):
        stands = [(3, 0), (2, 1), (1, 2), (0, 3)]
        self.told(CHAIN, stands, [(0, 3)], [(0, 3), (1, 2), (2, 1), (3, 0)])
        self.told(CHAIN, stands, [(2, 1)], [(2, 1), (3, 0)])
        self.told(CHAIN, stands, [(3, 0)], [(3, 0)])
        self.told(CHAIN, stands[::-1], [(2, 1)], [(2, 1), (3, 0)])

    def test_goals(self):
        stands = all_from(FORKS, (2, 0, 0, 0), 20)
        self.told(FORKS, stands, [], [])
        self.told(FORKS, stands, [(9, 9, 9, 9), (0, 0, 0, 2)], [])
        self.told(FORKS, stands, stands, sorted(stands))
        self.told(FORKS, stands, stands + stands, sorted(stands))
        self.told(FORKS, stands, [(0, 0, 0, 1)], sorted(stands))
        self.told(FORKS, stands, [(1, 1, 0, 0), (9, 9, 9, 9)], [(1, 0, 1, 0), (1, 1, 0, 0), (2, 0, 0, 0)])
        self.told(FORKS, stands, [(1, 1, 0, 0)] * 3, [(1, 0, 1, 0), (1, 1, 0, 0), (2, 0, 0, 0)])
        self.told(FORKS, [], [(0, 0, 0, 1)], [])

    def test_two_ways_that_part(self):
        # One drop, once b, stays b: c never comes from it.
        pot = (("a", "b", "c"), (((1, 0, 0), (0, 1, 0)), ((1, 0, 0), (0, 0, 1))), (), (1, 0, 0), 0)
        stands = all_from(pot, (1, 0, 0), 9)
        self.told(pot, stands, [(0, 0, 1)], [(0, 0, 1), (1, 0, 0)])
        self.told(pot, stands, [(0, 1, 0)], [(0, 1, 0), (1, 0, 0)])
        self.told(pot, stands, [(1, 0, 0)], [(1, 0, 0)])

    def test_stands_twice_in_the_list(self):
        stands = [(3, 0), (2, 1), (1, 2), (0, 3)]
        self.told(CHAIN, stands + stands, [(2, 1), (2, 1)], [(2, 1), (3, 0)])

    def test_many_stands(self):
        stands = all_from(CHAIN, (1999, 0), 2000)
        self.told(CHAIN, stands, [(0, 1999)], sorted(stands))

    def test_any_pot(self):
        chance = random.Random(113)
        parts = 0
        for turn in range(400):
            pot = random_pot(chance, most_sorts=4, most_rules=4, most=2)
            stands = all_from(pot, tuple(chance.randint(0, 4) for sort in pot[SORTS]), 40)
            if stands is None:
                continue
            chance.shuffle(stands)
            goals = chance.sample(stands, chance.randint(0, min(3, len(stands)))) + [(99,) * len(pot[SORTS])]
            answer = self.by_hand(pot, stands, goals)
            self.told(pot, stands, goals, answer)
            parts += 0 < len(answer) < len(stands)
        self.assertTrue(parts > 20)

    def test_nothing_is_changed(self):
        stands = all_from(FORKS, (2, 0, 0, 0), 20)
        goals = [(1, 1, 0, 0), (9, 9, 9, 9)]
        self.assertTrue(unchanged_by(can_come, FORKS, stands, goals))
        told = can_come(FORKS, stands, goals)
        told.clear()
        self.assertEqual(len(can_come(FORKS, stands, goals)), 3)

    def test_helped(self):
        stands = all_from(HELPED, (4, 0, 1), 40)
        self.told(HELPED, stands, ended_of(HELPED, stands), sorted(stands))


if __name__ == "__main__":
    unittest.main()
