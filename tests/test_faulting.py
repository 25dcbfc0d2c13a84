import itertools
import random
import unittest

from dropsums.asks import asked
from dropsums.faultchecker import lets_fault
from dropsums.faulting import fault_of, small_amounts
from helper import (
    BACK, GREATER, GROWS, HALF, HELPED, LESSER, LOST, MORE, RECKONERS, SAME, STILL, SUM, begun, leads, paths_of,
    random_ask, same_kind, sought_pot, unchanged_by, with_other, within,
)

SORTS, RULES, INPUTS, BEGIN, ANSWER = range(5)

# One h lets 19 a become b and 19 c become d, in whatever order: 20 times 20 stands. Where there is a z at first, and no
# h, it is one stand more.
GRID = (
    ("a", "b", "c", "d", "z", "h"),
    (
        ((1, 0, 0, 0, 0, 1), (0, 1, 0, 0, 0, 1)), ((0, 0, 1, 0, 0, 1), (0, 0, 0, 1, 0, 1)),
        ((0, 0, 0, 0, 1, 0), (0, 0, 0, 0, 0, 1)),
    ),
    (),
    (19, 0, 19, 0, 0, 1),
    1,
)
GRID_AND_ONE = with_other(GRID, (BEGIN,), (19, 0, 19, 0, 1, 0))


def come(pot, stand, most):
    """All stands that come, by hand; None where they are more than most."""
    stands = {stand}
    left = [stand]
    while left:
        for rule, led in leads(pot, left.pop()):
            if led not in stands:
                stands.add(led)
                left.append(led)
        if len(stands) > most:
            return None
    return stands


def is_lost(pot, ask, amounts):
    """Whether from a beginning of at most 400 stands one comes from which the answer can't come."""
    stands = come(pot, begun(pot, amounts), 400)
    if stands is None:
        return False
    hopeful = {stand for stand in stands if stand[pot[ANSWER]] == asked(ask, amounts)}
    while True:
        more = {stand for stand in stands - hopeful if any(led in hopeful for rule, led in leads(pot, stand))}
        if not more:
            return hopeful != stands
        hopeful |= more


def small(many):
    return [amounts for amounts in itertools.product(range(5), repeat=many) if sum(amounts) <= 4]


class TestSmallAmounts(unittest.TestCase):
    def test_the_very_lists(self):
        self.assertTrue(same_kind(small_amounts(0), [()]))
        self.assertTrue(same_kind(small_amounts(1), [(0,), (1,), (2,), (3,), (4,)]))
        self.assertTrue(same_kind(small_amounts(2), [
            (0, 0), (0, 1), (1, 0), (0, 2), (1, 1), (2, 0), (0, 3), (1, 2), (2, 1), (3, 0), (0, 4), (1, 3), (2, 2),
            (3, 1), (4, 0),
        ]))
        self.assertEqual(small_amounts(3)[:11], [
            (0, 0, 0), (0, 0, 1), (0, 1, 0), (1, 0, 0), (0, 0, 2), (0, 1, 1), (0, 2, 0), (1, 0, 1), (1, 1, 0),
            (2, 0, 0), (0, 0, 3),
        ])

    def test_all_of_them(self):
        for many, count in ((0, 1), (1, 5), (2, 15), (3, 35)):
            by_hand = sorted(small(many), key=lambda amounts: (sum(amounts), amounts))
            self.assertTrue(same_kind(small_amounts(many), by_hand))
            self.assertEqual(len(by_hand), count)

    def test_told_lists_are_the_askers_own(self):
        for many in range(4):
            told = small_amounts(many)
            kept = list(told)
            told[0] = None
            told.append((9,))
            self.assertEqual(small_amounts(many), kept)


class Told(unittest.TestCase):
    def told(self, pot, ask):
        """The word of the fault that is told and let by, or None; it is told just where there is one."""
        fault = fault_of(pot, ask)
        lost = any(is_lost(pot, ask, amounts) for amounts in small(len(pot[INPUTS])))
        self.assertIs(fault is not None, lost, (pot, ask, fault))
        if fault is None:
            return None
        self.assertIs(lets_fault(pot, ask, fault), True)
        for path in paths_of(fault):
            self.assertIn(type(within(fault, path)), (tuple, int, str))
        return fault[0]


class TestFaultOf(Told):
    def test_pots_that_keep_the_ask(self):
        for pot, ask in RECKONERS:
            self.assertIsNone(fault_of(pot, ask))
            self.assertIsNone(self.told(pot, ask))

    def test_pots_that_end_wrongly(self):
        one, other = ((1, 0), 0), ((0, 1), 0)
        for pot, ask in (
            (HALF, ("sum", ((1,), 0))), (HALF, ("part", ((1,), 1), 2)), (LESSER, ("most", one, other)),
            (LESSER, ("sum", one)), (GREATER, ("least", one, other)), (MORE, ("more", other, one)),
            (MORE, ("same", one, other)), (SAME, ("more", one, other)), (SUM, ("sum", ((2, 1), 2))),
            (STILL, ("sum", ((), 4))), (STILL, ("sum", ((), -5))), (HALF, ("sum", ((-1,), -1))),
        ):
            self.assertEqual(self.told(pot, ask), "wrong", (pot, ask))

    def test_pots_wrong_only_from_some_beginnings(self):
        # Right up to so many; a beginning with five is no small one.
        pot = (("a", "y"), (), (0,), (0, 0), 1)
        for most, word in ((0, "wrong"), (1, "wrong"), (3, "wrong"), (4, None), (5, None)):
            self.assertEqual(self.told(pot, ("most", ((0,), 0), ((1,), -most))), word)
            self.assertEqual(self.told(pot, ("more", ((1,), 0), ((0,), most))), word)
        for ask, word in (
            (("more", ((1, 1), 0), ((0, 0), 3)), "wrong"), (("more", ((1, 1), 0), ((0, 0), 4)), None),
            (("more", ((2, 1), 0), ((0, 0), 7)), "wrong"), (("more", ((2, 1), 0), ((0, 0), 8)), None),
        ):
            self.assertEqual(self.told((("a", "b", "y"), (), (0, 1), (0, 0, 0), 2), ask), word)

    def test_pots_that_end_unlike(self):
        fork = (("a", "b", "c"), (((1, 0, 0), (0, 1, 0)), ((1, 0, 0), (0, 0, 1))), (0,), (0, 0, 0), 1)
        for ask in (("sum", ((1,), 0)), ("sum", ((0,), 0)), ("least", ((1,), 0), ((0,), 1))):
            self.assertIsNotNone(self.told(fork, ask))

    def test_pots_that_go_round(self):
        # All stands have the answer, or none has it.
        self.assertIsNone(self.told(BACK, ("sum", ((0,), 5))))
        self.assertEqual(self.told(with_other(BACK, (BEGIN, 0), 1), ("sum", ((0,), 4))), "never")
        self.assertEqual(self.told(BACK, ("sum", ((1,), 5))), "never")
        # Always the answer can come again, though it never comes to rest.
        self.assertIsNone(self.told(with_other(BACK, (ANSWER,), 1), ("sum", ((1,), 0))))
        self.assertEqual(self.told(with_other(BACK, (ANSWER,), 1), ("sum", ((1,), 1))), "wrong")
        self.assertEqual(self.told(with_other(BACK, (BEGIN, 0), 1), ("sum", ((-1,), 0))), "never")

    def test_pots_that_get_lost(self):
        self.assertEqual(self.told(LOST, ("sum", ((1,), 0))), "never")
        # Where b becomes a again nothing is lost.
        back = with_other(LOST, (RULES, 3, 1), (1, 0, 0, 0))
        self.assertIsNone(self.told(back, ("sum", ((1,), 0))))

    def test_answers_on_the_way_that_do_not_stay(self):
        # The answer is there at first and gone at the end.
        pot = (("y", "b"), (((1, 0), (0, 1)),), (0,), (0, 0), 0)
        self.assertEqual(self.told(pot, ("sum", ((1,), 0))), "wrong")
        self.assertIsNone(self.told(pot, ("sum", ((0,), 0))))

    def test_four_hundred_stands_and_one_more(self):
        for ask, word in ((("sum", ((), 5)), "wrong"), (("sum", ((), 19)), None), (("sum", ((), 20)), "wrong")):
            self.assertEqual(self.told(GRID, ask), word)
            self.assertIsNone(self.told(GRID_AND_ONE, ask))
        self.assertEqual(len(come(GRID, GRID[BEGIN], 400)), 400)
        self.assertEqual(len(come(GRID_AND_ONE, GRID_AND_ONE[BEGIN], 401)), 401)
        # With an input: from the first beginning just so many, from all others more.
        for place, ask, word in (
            (0, ("sum", ((5,), 19)), None), (0, ("sum", ((5,), 18)), "wrong"), (0, ("sum", ((1,), 19)), None),
            (1, ("sum", ((2,), 19)), "wrong"), (1, ("sum", ((1,), 19)), None),
        ):
            self.assertEqual(self.told(with_other(GRID, (INPUTS,), (place,)), ask), word)
        self.assertEqual(self.told(with_other(with_other(GRID, (INPUTS,), (5,)), (BEGIN, 5), 0), ("sum", ((0,), 19))), "wrong")

    def test_four_hundred_stands_of_never(self):
        # The grid goes back, too: it never ends, and all 400 are told.
        rules = GRID[RULES][:2] + (GRID[RULES][0][::-1],)
        pot = with_other(GRID, (RULES,), rules)
        self.assertEqual(self.told(pot, ("sum", ((), 20))), "never")
        self.assertIsNone(self.told(pot, ("sum", ((), 7))))
        both = with_other(GRID, (RULES,), GRID[RULES][:2] + (GRID[RULES][0][::-1], GRID[RULES][1][::-1]))
        self.assertEqual(self.told(both, ("sum", ((), 20))), "never")
        self.assertEqual(len(fault_of(both, ("sum", ((), 20)))[3]), 400)
        more = with_other(both, (BEGIN, 0), 20)
        self.assertIsNone(self.told(more, ("sum", ((), 21))))

    def test_pots_that_grow(self):
        self.assertIsNone(self.told(GROWS, ("sum", ((), 0))))
        self.assertIsNone(self.told(GROWS, ("sum", ((), -1))))
        # Without an a it stands still.
        still = with_other(with_other(GROWS, (BEGIN, 0), 0), (INPUTS,), (0,))
        self.assertEqual(self.told(still, ("sum", ((0,), 1))), "wrong")
        self.assertIsNone(self.told(still, ("sum", ((1,), 0))))

    def test_any_pot(self):
        chance = random.Random(103)
        words = []
        for turn in range(400):
            pot = sought_pot(chance)
            words.append(self.told(pot, random_ask(chance, len(pot[INPUTS]), 1)))
        self.assertTrue(words.count(None) > 40 and words.count("wrong") > 40, words)

    def test_any_pot_that_goes_round(self):
        chance = random.Random(105)
        words = []
        for turn in range(200):
            pot = sought_pot(chance)
            rules = pot[RULES][:2] + tuple(rule[::-1] for rule in pot[RULES][:2] if any(rule[1]))
            pot = with_other(with_other(pot, (RULES,), rules), (BEGIN,), tuple(count + 1 for count in pot[BEGIN]))
            words.append(self.told(pot, random_ask(chance, len(pot[INPUTS]), 2)))
        for word in (None, "wrong", "never"):
            self.assertTrue(words.count(word) > 20, (word, words.count(word)))

    def test_one_thing_otherwise(self):
        chance = random.Random(104)
        words = []
        for pot, ask in RECKONERS:
            paths = [path for path in paths_of(pot) if path[:1] in ((RULES,), (BEGIN,)) and type(within(pot, path)) is int]
            for turn in range(20):
                path = chance.choice(paths)
                other = with_other(pot, path, chance.randint(0, 2))
                if all(any(takes) and takes != gives for takes, gives in other[RULES]):
                    words.append(self.told(other, ask))
        self.assertTrue(words.count(None) > 20 and words.count("wrong") > 20)

    def test_the_same_each_time(self):
        for pot, ask in ((HALF, ("sum", ((1,), 0))), (BACK, ("sum", ((1,), 5))), (HELPED, ("sum", ((1, 1), 0)))):
            self.assertTrue(same_kind(fault_of(pot, ask), fault_of(pot, ask)))

    def test_nothing_is_changed(self):
        for pot, ask in RECKONERS + ((HALF, ("sum", ((1,), 0))), (BACK, ("sum", ((1,), 5)))):
            self.assertTrue(unchanged_by(fault_of, pot, ask))


if __name__ == "__main__":
    unittest.main()
