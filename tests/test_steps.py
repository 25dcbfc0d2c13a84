import random
import unittest

from dropsums.errors import NoStep
from dropsums.steps import can_go, gone, has_ended, rules_there
from helper import HALF, HELPED, LARGE, LESSER, POTS, STILL, random_pot, same_kind, unchanged_by

RULES = 1


class TestSteps(unittest.TestCase):
    def refused(self, pot, stand, rule):
        self.assertIs(can_go(pot, stand, rule), False, (stand, rule))
        with self.assertRaises(NoStep) as taken:
            gone(pot, stand, rule)
        self.assertTrue(same_kind(taken.exception.place, 0))

    def goes(self, pot, stand, rule, led):
        self.assertIs(can_go(pot, stand, rule), True, (stand, rule))
        self.assertTrue(same_kind(gone(pot, stand, rule), led), (stand, rule))

    def test_just_what_it_takes(self):
        self.goes(LESSER, (1, 1, 0), 0, (0, 0, 1))
        self.goes(HALF, (2, 0), 0, (0, 1))
        self.goes(LARGE, (8,) * 8, 7, (7,) * 8)

    def test_one_less_of_a_sort(self):
        for stand in ((0, 1, 0), (1, 0, 0), (0, 0, 0), (0, 9, 9), (9, 0, 9)):
            self.refused(LESSER, stand, 0)
        self.refused(HALF, (1, 7), 0)
        for sort in range(8):
            self.refused(LARGE, tuple(7 if k == sort else 8 for k in range(8)), 7)

    def test_far_more(self):
        large = 10 ** 12
        self.goes(LESSER, (large, large, large), 0, (large - 1, large - 1, large + 1))
        self.goes(HALF, (10 ** 39, 5), 0, (10 ** 39 - 2, 6))

    def test_taken_and_given_again(self):
        # The drop of the third sort has to be there, and is there again.
        self.goes(HELPED, (0, 1, 1), 1, (1, 0, 1))
        self.goes(HELPED, (0, 3, 2), 1, (1, 2, 2))
        self.refused(HELPED, (0, 1, 0), 1)
        pot = (("a", "b"), (((3, 0), (2, 1)),), (), (0, 0), 0)
        self.goes(pot, (3, 0), 0, (2, 1))
        self.refused(pot, (2, 1), 0)

    def test_numbers_that_are_no_rules(self):
        for rule in (-1, -3, -4, 3, 4, 10 ** 39, -(10 ** 39)):
            self.refused(HELPED, (99, 99, 99), rule)
        for rule in (-1, 0, 1):
            self.refused(STILL, (5,), rule)

    def test_rules_there(self):
        for stand, rules in (
            ((0, 0, 0), []), ((2, 0, 0), [0]), ((1, 1, 1), [1]), ((0, 0, 3), [2]), ((2, 1, 1), [0, 1]),
            ((2, 0, 3), [0, 2]), ((2, 1, 3), [0, 1, 2]), ((1, 9, 0), []),
        ):
            self.assertTrue(same_kind(rules_there(HELPED, stand), rules), stand)
            self.assertIs(has_ended(HELPED, stand), rules == [])
        self.assertEqual(rules_there(LARGE, (8,) * 8), list(range(8)))
        self.assertEqual(rules_there(LARGE, (3,) * 8), [0, 1, 2])

    def test_ended(self):
        self.assertIs(has_ended(LESSER, (0, 10 ** 12, 3)), True)
        self.assertIs(has_ended(LESSER, (1, 1, 0)), False)

    def test_a_pot_without_rules(self):
        self.assertTrue(same_kind(rules_there(STILL, (5,)), []))
        self.assertIs(has_ended(STILL, (5,)), True)
        self.assertIs(has_ended(STILL, (0,)), True)

    def test_any_pot(self):
        chance = random.Random(5)
        went = 0
        for turn in range(300):
            pot = random_pot(chance)
            many = len(pot[0])
            stand = tuple(chance.randint(0, 9) for sort in range(many))
            there = []
            for rule, (takes, gives) in enumerate(pot[RULES]):
                if any(stand[sort] < takes[sort] for sort in range(many)):
                    self.refused(pot, stand, rule)
                else:
                    there.append(rule)
                    self.goes(pot, stand, rule, tuple(stand[k] - takes[k] + gives[k] for k in range(many)))
            went += len(there)
            self.assertEqual(rules_there(pot, stand), there)
            self.assertIs(has_ended(pot, stand), not there)
        self.assertTrue(went > 100)

    def test_told_lists_are_the_askers_own(self):
        told = rules_there(HELPED, (2, 1, 3))
        told.append(7)
        told[0] = 5
        self.assertEqual(rules_there(HELPED, (2, 1, 3)), [0, 1, 2])

    def test_nothing_is_changed(self):
        for pot in POTS:
            stand = (9,) * len(pot[0])
            for call in (rules_there, has_ended):
                self.assertTrue(unchanged_by(call, pot, stand))
            for call in (can_go, gone):
                self.assertTrue(unchanged_by(call, pot, stand, 0))


if __name__ == "__main__":
    unittest.main()
