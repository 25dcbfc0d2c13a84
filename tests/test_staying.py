import math
import random
import unittest

from dropsums.orders import chosen
from dropsums.staying import all_kept, count_of, first_change, made_of, stays
from helper import (
    HALF, HELPED, LARGE, LESSER, MORE, POTS, SAME, STILL, added_up, random_pot, rank_of, same_kind, unchanged_by,
)

SORTS, RULES = 0, 1

# A drop of a and one of b, or six of each, become a c.
NARROW = (("a", "b", "c"), (((1, 1, 0), (0, 0, 1)), ((6, 6, 0), (0, 0, 1))), (), (0, 0, 0), 0)

# What stays has 2 times a's number the same as 3 times b's and 5 times c's, added.
WANTS_HALVES = (("a", "b", "c"), (((2, 0, 0), (0, 3, 5)),), (), (0, 0, 0), 0)


def changes_of(pot):
    return [[given - taken for taken, given in zip(takes, gives)] for takes, gives in pot[RULES]]


class TestCounts(unittest.TestCase):
    def test_counts(self):
        self.assertTrue(same_kind(count_of((1, 2, 3), (10, 20, 30)), 140))
        self.assertEqual(count_of((0, 0), (7, 9)), 0)
        self.assertEqual(count_of((5,), (0,)), 0)

    def test_numbers_below_0(self):
        self.assertEqual(count_of((-1, 2, -3), (10, 20, 30)), -60)
        self.assertEqual(count_of((-1, 1), (10 ** 12, 10 ** 12)), 0)
        self.assertEqual(count_of((-(10 ** 39), 1), (10 ** 12, 1)), 1 - 10 ** 51)


class TestStays(unittest.TestCase):
    def told(self, pot, kept, rule):
        self.assertTrue(same_kind(first_change(pot, kept), rule), kept)
        self.assertIs(stays(pot, kept), rule is None)

    def test_what_stays(self):
        self.told(LESSER, (1, 0, 1), None)
        self.told(LESSER, (-1, 1, 0), None)
        self.told(LESSER, (2, 5, 7), None)
        self.told(HALF, (1, 2), None)
        self.told(SAME, (1, 1, 1, 0, 0), None)
        self.told(SAME, (0, 1, -1, 1, -1), None)
        self.told(LESSER, (10 ** 39, -(10 ** 39), 0), None)
        self.told(LARGE, (1, -1, 0, 0, 0, 2, 0, -2), None)

    def test_what_a_rule_changes(self):
        self.told(LESSER, (1, 1, 1), 0)
        self.told(HALF, (1, 1), 0)
        self.told(LARGE, (1, 0, 0, 0, 0, 0, 0, 0), 0)

    def test_the_first_rule_that_changes_it(self):
        # By the first rule two of a are one of b.
        self.told(HELPED, (1, 2, 0), 1)
        self.told(HELPED, (1, 1, 0), 0)
        # The first two rules leave the third sort as it is, but a count with another sort not both.
        self.told(HELPED, (0, 0, 1), 2)
        self.told(SAME, (1, 2, 0, 1, 1), 1)
        self.told(SAME, (1, 1, 1, 0, 1), 1)
        self.told(SAME, (0, 1, 1, 1, 1), 2)
        self.told(SAME, (0, 1, 2, 1, 2), 2)
        self.told(SAME, (0, 1, 2, 1, -1), 1)

    def test_a_single_rule_changes_it(self):
        rules = tuple(((1, 1, 0), (0, 0, 1)) for rule in range(8))
        for odd in range(8):
            pot = (("a", "b", "c"), rules[:odd] + (((1, 2, 0), (0, 0, 1)),) + rules[odd + 1:], (), (0, 0, 0), 0)
            self.told(pot, (1, 2, 3), odd)
            self.told(pot, (1, 0, 1), None)

    def test_taken_and_given_again(self):
        pot = (("a", "b", "h"), (((1, 0, 4), (0, 1, 4)),), (), (0, 0, 0), 0)
        self.told(pot, (0, 0, 9), None)
        self.told(pot, (1, 1, 5), None)
        self.told(pot, (1, 2, 0), 0)

    def test_noughts_and_no_rules(self):
        for pot in POTS:
            self.told(pot, (0,) * len(pot[SORTS]), None)
        self.told(STILL, (7,), None)

    def test_any_pot(self):
        chance = random.Random(21)
        for turn in range(300):
            pot = random_pot(chance)
            kept = tuple(chance.randint(-3, 3) for sort in pot[SORTS])
            changed = [rule for rule, change in enumerate(changes_of(pot)) if added_up(kept, change) != 0]
            self.told(pot, kept, changed[0] if changed else None)


class TestAllKept(unittest.TestCase):
    def looked_at(self, pot):
        """All that point 21 says of the list, looked at by hand."""
        kepts = all_kept(pot)
        many = len(pot[SORTS])
        self.assertIs(type(kepts), list)
        changes = changes_of(pot)
        for kept in kepts:
            self.assertIs(type(kept), tuple)
            self.assertEqual([type(number) for number in kept], [int] * many)
            self.assertTrue(all(added_up(kept, change) == 0 for change in changes))
            self.assertIs(stays(pot, kept), True)
            self.assertEqual(math.gcd(*kept), 1)
        self.assertEqual(len(kepts), many - rank_of(changes))
        self.assertEqual(rank_of(kepts), len(kepts))
        return kepts

    def test_pots(self):
        for pot, many in (
            (LESSER, 2), (HALF, 1), (HELPED, 0), (STILL, 1), (LARGE, 7), (MORE, 2), (SAME, 2), (NARROW, 1),
            (WANTS_HALVES, 2),
        ):
            self.assertEqual(len(self.looked_at(pot)), many)

    def test_every_count_of_sorts_and_rules(self):
        chance = random.Random(22)
        met = set()
        for many in range(1, 9):
            for rules in range(9):
                for most in (1, 2, 9):
                    pot = random_pot(chance, most=most)
                    while (len(pot[SORTS]), len(pot[RULES])) != (many, rules):
                        pot = random_pot(chance, most=most)
                    met.add(len(self.looked_at(pot)))
        self.assertEqual(met, set(range(9)))

    def test_no_rules(self):
        for many in range(1, 9):
            pot = (tuple("abcdefgh"[:many]), (), (), (0,) * many, 0)
            self.assertEqual(len(self.looked_at(pot)), many)

    def test_rules_that_leave_nothing(self):
        for many in range(1, 9):
            rules = tuple((tuple(2 if k == sort else 0 for k in range(many)), (0,) * many) for sort in range(many))
            pot = (tuple("abcdefgh"[:many]), rules, (), (0,) * many, 0)
            self.assertTrue(same_kind(all_kept(pot), []))

    def test_common_divisors(self):
        # What stays here wants large numbers; twice the same change leaves as much as once.
        pot = (("a", "b", "c"), (((7, 0, 0), (0, 9, 0)), ((0, 8, 0), (0, 0, 5)), ((0, 8, 1), (0, 0, 6))), (), (0,) * 3, 0)
        self.assertEqual(sorted(map(abs, self.looked_at(pot)[0])), sorted((45, 35, 56)))

    def test_counts_stay_on_the_way(self):
        chance = random.Random(23)
        for turn in range(100):
            pot = random_pot(chance, most_sorts=5, most_rules=4, most=2)
            stand = tuple(chance.randint(0, 9) for sort in pot[SORTS])
            order, end = chosen(pot, stand, [chance.randrange(12) for k in range(9)], 12)
            for kept in all_kept(pot):
                self.assertEqual(count_of(kept, end), count_of(kept, stand))

    def test_told_lists_are_the_askers_own(self):
        told = all_kept(SAME)
        kept = list(told)
        told[0] = None
        told.clear()
        self.assertEqual(rank_of(all_kept(SAME) + kept), 2)
        self.assertEqual(len(all_kept(SAME)), 2)

    def test_nothing_is_changed(self):
        for pot in POTS:
            self.assertTrue(unchanged_by(all_kept, pot))
            self.assertTrue(unchanged_by(stays, pot, (1,) * len(pot[SORTS])))
        self.assertTrue(unchanged_by(made_of, [(1, 2), (0, 1)], (3, 4)))


class TestMadeOf(unittest.TestCase):
    def made(self, kepts, kept):
        """The bottom by which it is made, looked at by hand."""
        told = made_of(kepts, kept)
        self.assertIs(type(told), tuple)
        bottom, parts = told
        self.assertIs(type(bottom), int)
        self.assertTrue(bottom >= 1)
        self.assertIs(type(parts), tuple)
        self.assertEqual([type(part) for part in parts], [int] * len(kepts))
        for sort, number in enumerate(kept):
            self.assertEqual(sum(part * one[sort] for part, one in zip(parts, kepts)), bottom * number)
        return bottom

    def test_made(self):
        self.made([(1, 0, 1), (0, 1, 1)], (2, -3, -1))
        self.made([(1, 0, 1), (-1, 1, 0)], (5, 7, 12))
        self.made([(1, 2)], (-3, -6))
        self.made([(1,)], (10 ** 39,))

    def test_a_bottom_above_1(self):
        # Both lists may be told of the one pot.
        for kepts in ([(3, 2, 0), (5, 0, 2)], [(5, 0, 2), (3, 2, 0)]):
            self.assertTrue(all(stays(WANTS_HALVES, kept) for kept in kepts + [(4, 1, 1)]))
            self.assertEqual(self.made(kepts, (4, 1, 1)) % 2, 0)
        self.made([(2, 3)], (-2, -3))

    def test_noughts(self):
        for kepts in ([], [(1, 0, 1)], [(3, 2, 0), (5, 0, 2)]):
            self.made(kepts, (0, 0, 0))

    def test_a_void_list(self):
        self.assertIsNone(made_of([], (0, 0, 1)))
        self.assertIsNone(made_of([], (-1,)))

    def test_made_of_none(self):
        self.assertIsNone(made_of([(1, 0, 1), (0, 1, 1)], (1, 1, 1)))
        self.assertIsNone(made_of([(1, 2)], (1, 3)))
        self.assertIsNone(made_of([(1, 2)], (10 ** 39, 2 * 10 ** 39 + 1)))
        self.assertIsNone(made_of([(3, 2, 0)], (5, 0, 2)))

    def test_all_that_stays_is_made(self):
        chance = random.Random(24)
        bottoms = set()
        for turn in range(300):
            pot = random_pot(chance, most_rules=4, most=chance.choice((2, 9)))
            kepts = all_kept(pot)
            parts = [chance.randint(-9, 9) for one in kepts]
            kept = [sum(part * one[sort] for part, one in zip(parts, kepts)) for sort in range(len(pot[SORTS]))]
            divisor = math.gcd(*kept) or 1
            kept = tuple(number // divisor for number in kept)
            self.assertIs(stays(pot, kept), True)
            bottoms.add(self.made(kepts, kept))
        self.assertTrue(len(bottoms) > 3)

    def test_just_what_stays_is_made(self):
        chance = random.Random(25)
        words = []
        for turn in range(400):
            pot = random_pot(chance, most_sorts=4, most_rules=2, most=2)
            kept = tuple(chance.randint(-2, 2) for sort in pot[SORTS])
            kepts = all_kept(pot)
            words.append(stays(pot, kept))
            if words[-1]:
                self.made(kepts, kept)
            else:
                self.assertIsNone(made_of(kepts, kept))
        self.assertTrue(50 < words.count(True) < 350)

    def test_some_of_a_list(self):
        chance = random.Random(26)
        words = []
        for turn in range(400):
            pot = random_pot(chance, most_rules=3, most=2)
            kepts = all_kept(pot)
            some = [one for one in kepts if chance.random() < 0.6]
            chance.shuffle(some)
            parts = [chance.choice((0, 0, 0, 1, -2)) for one in kepts]
            kept = tuple(sum(part * one[sort] for part, one in zip(parts, kepts)) for sort in range(len(pot[SORTS])))
            words.append(rank_of(some + [kept]) == len(some))
            if words[-1]:
                self.made(some, kept)
            else:
                self.assertIsNone(made_of(some, kept))
        self.assertTrue(50 < words.count(True) < 350)

    def test_large_numbers(self):
        large = 10 ** 39
        kepts = [(large, 1, 0), (0, large + 1, 1)]
        self.made(kepts, (large * large, large + large * large + large, large))
        self.assertIsNone(made_of(kepts, (large * large, large + large * large + large, large + 1)))
        self.made([(large, 1)], (large * 10 ** 960, 10 ** 960))


if __name__ == "__main__":
    unittest.main()
