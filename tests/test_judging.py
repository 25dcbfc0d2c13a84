import random
import unittest

from dropsums.checker import lets_paper
from dropsums.falling import falls, first_not_lowered, is_round
from dropsums.faultchecker import lets_fault
from dropsums.faulting import fault_of
from dropsums.finding import paper_for
from dropsums.judging import judged
from helper import (
    BACK, GROWS, HALF, LESSER, MORE, OWN, RECKONERS, SAME, STILL, WIDE, random_ask, same_kind, sought_pot, unchanged_by,
    with_other,
)

RULES, INPUTS, BEGIN = 1, 2, 3


class TestJudged(unittest.TestCase):
    def judged_rightly(self, pot, ask):
        """What is told, as words; it is let by, and told where it is due."""
        told = judged(pot, ask)
        self.assertIs(type(told), tuple)
        self.assertEqual(len(told), 2)
        has_paper, has_fault = paper_for(pot, ask) is not None, fault_of(pot, ask) is not None
        self.assertFalse(has_paper and has_fault)
        if has_paper:
            self.assertEqual(told[0], "paper")
            self.assertIs(lets_paper(pot, ask, told[1]), True)
            return "paper"
        if has_fault:
            self.assertEqual(told[0], "fault")
            self.assertIs(lets_fault(pot, ask, told[1]), True)
            return "fault"
        self.assertEqual(told[0], "open")
        word, numbers = falls(pot)
        if word == "round":
            self.assertTrue(is_round(pot, numbers))
        else:
            self.assertIsNone(first_not_lowered(pot, numbers))
        self.assertTrue(same_kind(told, ("open", "round" if word == "round" else "tree")))
        return told

    def test_papers(self):
        for pot, ask in RECKONERS:
            self.assertEqual(self.judged_rightly(pot, ask), "paper")

    def test_faults(self):
        one, other = ((1, 0), 0), ((0, 1), 0)
        for pot, ask in (
            (HALF, ("sum", ((1,), 0))), (LESSER, ("most", one, other)), (MORE, ("more", other, one)),
            (SAME, ("more", one, other)), (STILL, ("sum", ((), 4))), (OWN, ("sum", ((1,), 0))),
            # A fault goes ahead of the name, whether it has a round or not.
            (BACK, ("sum", ((0,), 4))), (BACK, ("sum", ((1,), 5))), (with_other(BACK, (BEGIN, 0), 1), ("sum", ((0,), 0))),
        ):
            self.assertEqual(self.judged_rightly(pot, ask), "fault")

    def test_left_open(self):
        for pot, ask, word in (
            (BACK, ("sum", ((0,), 5)), "round"), (GROWS, ("sum", ((), 0)), "round"), (GROWS, ("sum", ((), 7)), "round"),
            (OWN, ("sum", ((1,), 1)), "tree"), (WIDE, ("sum", ((), 5)), "tree"), (WIDE, ("sum", ((), 21)), "tree"),
            # Wrong, but not from a small beginning.
            ((("a", "y"), (), (0,), (0, 0), 1), ("more", ((1,), 0), ((0,), 4)), "tree"),
            ((("a", "b", "y"), BACK[RULES], (0,), (0, 0, 0), 2), ("more", ((1,), 0), ((0,), 4)), "round"),
        ):
            self.assertTrue(same_kind(judged(pot, ask), ("open", word)), (pot, ask))
            self.assertEqual(self.judged_rightly(pot, ask), ("open", word))

    def test_a_paper_goes_ahead_of_many_stands(self):
        self.assertEqual(self.judged_rightly(WIDE, ("sum", ((), 20))), "paper")

    def test_any_pot(self):
        chance = random.Random(106)
        words = []
        for turn in range(400):
            pot = sought_pot(chance)
            if turn % 2:
                # Nothing at first, and a small ask of the answer alone: more of these are kept.
                pot = with_other(pot, (BEGIN,), (0,) * len(pot[BEGIN]))
            words.append(self.judged_rightly(pot, random_ask(chance, len(pot[INPUTS]), 1)))
        for word in ("paper", "fault", ("open", "round"), ("open", "tree")):
            self.assertTrue(words.count(word) > 4, (word, words.count(word)))

    def test_the_same_each_time(self):
        for pot, ask in RECKONERS + ((BACK, ("sum", ((1,), 5))), (OWN, ("sum", ((1,), 1)))):
            self.assertTrue(same_kind(judged(pot, ask), judged(pot, ask)))

    def test_nothing_is_changed(self):
        for pot, ask in RECKONERS + ((BACK, ("sum", ((1,), 5))), (OWN, ("sum", ((1,), 1)))):
            self.assertTrue(unchanged_by(judged, pot, ask))


if __name__ == "__main__":
    unittest.main()
