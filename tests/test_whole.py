"""What is promised over the whole program, of pots of every make."""

import copy
import random
import unittest

from dropsums.asks import asked, read_ask, shown_ask
from dropsums.checker import lets_paper
from dropsums.errors import NoFault, NoPaper
from dropsums.falling import falls, first_not_lowered, is_round
from dropsums.faultchecker import lets_fault
from dropsums.faulting import fault_of, small_amounts
from dropsums.fewest import fewest, lesser
from dropsums.finding import paper_for
from dropsums.judging import judged
from dropsums.making import made
from dropsums.orders import chosen
from dropsums.paperlines import read_paper, shown_paper
from dropsums.potlines import read_pot, shown_pot
from dropsums.pots import is_pot
from dropsums.staying import all_kept, made_of, stays
from helper import (
    BACK, GROWS, LOST, OWN, RECKONERS, WIDE, begun, leads, paths_of, random_ask, same_kind, sought_pot, with_other, within,
)

SORTS, RULES, INPUTS, BEGIN, ANSWER = range(5)

ONE, OTHER = ((1, 0), 0), ((0, 1), 0)
MADE_FOR = (
    ("sum", ((2, 1), 3)), ("part", ((1, 3), 2), 3), ("least", ((1, 2), 0), ((3, 0), 1)), ("most", ONE, OTHER),
    ("more", ((2, 0), 1), ((0, 1), 0)), ("same", ONE, OTHER), ("same", ((2, 1), 0), ((1, 1), 0)), ("sum", ((0,), 9)),
    ("part", ((3,), 9), 6), ("more", ((1,), 0), ((0,), 4)), ("same", ((1,), 0), ((0,), 2)), ("most", ((1,), 0), ((0,), 3)),
)


def with_other_number(chance, pot):
    """The pot with one number of its rules or its beginning otherwise, where it still is one."""
    paths = [path for path in paths_of(pot) if path[:1] in ((RULES,), (BEGIN,)) and type(within(pot, path)) is int]
    if not paths:
        return pot
    other = with_other(pot, chance.choice(paths), chance.randint(0, 2))
    return other if is_pot(other) else pot


def pots_of_every_make(chance):
    """Pots and asks for them: some that are kept, some that aren't."""
    pairs = list(RECKONERS) + [(made(len(ask[1][0]), ask)[0], ask) for ask in MADE_FOR]
    pairs += [(with_other_number(chance, pot), ask) for pot, ask in list(pairs) for turn in range(3)]
    for many, rules in ((1, 0), (1, 1), (1, 2), (2, 1), (2, 2)):
        for pot in chance.sample(lesser(many, rules), min(25, len(lesser(many, rules)))):
            pairs.append((pot, random_ask(chance, many, 1)))
    for pot in [BACK, GROWS, LOST, OWN, WIDE] + [sought_pot(chance) for turn in range(80)]:
        pairs.append((pot, random_ask(chance, len(pot[INPUTS]), 1)))
    return pairs


def is_let_by(call, pot, ask, thing):
    try:
        return call(pot, ask, thing)
    except (NoPaper, NoFault):
        return False


class TestWhole(unittest.TestCase):
    @classmethod
    def setUpClass(cls):
        cls.pairs = pots_of_every_make(random.Random(171))
        cls.judgments = [judged(pot, ask) for pot, ask in cls.pairs]

    def test_there_are_some_of_each(self):
        words = [told[0] if told[0] != "open" else told[1] for told in self.judgments]
        for word in ("paper", "fault", "round", "tree"):
            self.assertTrue(words.count(word) > 5, (word, words.count(word)))

    def test_what_is_told_is_let_by(self):
        for (pot, ask), (word, thing) in zip(self.pairs, self.judgments):
            self.assertIn(word, ("paper", "fault", "open"))
            if word == "paper":
                self.assertIs(lets_paper(pot, ask, thing), True)
            elif word == "fault":
                self.assertIs(lets_fault(pot, ask, thing), True)
            else:
                self.assertEqual(thing, "round" if falls(pot)[0] == "round" else "tree")

    def test_never_both_a_paper_and_a_fault(self):
        # Papers and faults of all pots and asks here, tried on all with as many sorts and inputs.
        papers = [(pot, thing) for (pot, ask), (word, thing) in zip(self.pairs, self.judgments) if word == "paper"]
        faults = [(pot, thing) for (pot, ask), (word, thing) in zip(self.pairs, self.judgments) if word == "fault"]

        def fits(pot, other):
            return len(pot[SORTS]) == len(other[SORTS]) and len(pot[INPUTS]) == len(other[INPUTS])

        both = 0
        for pot, ask in self.pairs:
            paper = any(is_let_by(lets_paper, pot, ask, thing) for other, thing in papers if fits(pot, other))
            fault = any(is_let_by(lets_fault, pot, ask, thing) for other, thing in faults if fits(pot, other))
            self.assertFalse(paper and fault, (pot, ask))
            both += paper or fault
        self.assertTrue(both > 100)
        for pot, ask in self.pairs:
            self.assertFalse(paper_for(pot, ask) is not None and fault_of(pot, ask) is not None)

    def test_the_same_again(self):
        for (pot, ask), told in list(zip(self.pairs, self.judgments))[::2]:
            again = judged(copy.deepcopy(pot), copy.deepcopy(ask))
            self.assertEqual(again[0], told[0])
            if told[0] == "open":
                self.assertEqual(again, told)

    def test_papers_hold_from_all_beginnings(self):
        chance = random.Random(172)
        for (pot, ask), (word, thing) in zip(self.pairs, self.judgments):
            if word != "paper":
                continue
            for amounts in small_amounts(len(pot[INPUTS]))[:6] + [tuple(chance.randint(0, 30) for place in pot[INPUTS])]:
                numbers = [chance.randrange(99) for number in range(11)]
                order, stand = chosen(pot, begun(pot, amounts), numbers, 2000)
                self.assertEqual(leads(pot, stand), [])
                self.assertEqual(stand[pot[ANSWER]], asked(ask, amounts), (pot, ask, amounts))

    def test_lines_are_read_as_the_very_same(self):
        for (pot, ask), (word, thing) in zip(self.pairs, self.judgments):
            self.assertTrue(same_kind(read_pot(shown_pot(pot)), pot))
            self.assertTrue(same_kind(read_ask(len(pot[INPUTS]), shown_ask(ask)), ask))
            if word == "paper":
                self.assertTrue(same_kind(read_paper(pot, ask, shown_paper(thing)), thing))

    def test_what_stays_and_what_falls(self):
        chance = random.Random(173)
        for pot, ask in self.pairs:
            kepts = all_kept(pot)
            drawn = [chance.randint(-3, 3) for kept in kepts]
            mixed = tuple(
                sum(times * kept[sort] for times, kept in zip(drawn, kepts)) for sort in range(len(pot[SORTS]))
            )
            self.assertTrue(stays(pot, mixed))
            self.assertIsNotNone(made_of(kepts, mixed))
            word, numbers = falls(pot)
            if word == "falls":
                self.assertIsNone(first_not_lowered(pot, numbers))
            else:
                self.assertTrue(is_round(pot, numbers))

    def test_the_fewest(self):
        for many, ask in ((1, ("sum", ((2,), 0))), (1, ("sum", ((3,), 0))), (2, ("least", ONE, OTHER))):
            told = fewest(many, ask)
            if told[0] == "pot":
                self.assertEqual(judged(told[1], ask)[0], "paper")
                self.assertIsNone(fault_of(told[1], ask))

    def test_told_tuples_hold_nothing_that_can_be_changed(self):
        for told in self.judgments + [made(1, ("sum", ((1,), 0))), fewest(1, ("sum", ((1,), 0)))]:
            for path in paths_of(told):
                self.assertIn(type(within(told, path)), (tuple, int, str))

    def test_told_lists_that_are_changed_change_nothing(self):
        for call, things in (
            (all_kept, (LOST,)), (lesser, (1, 1)), (small_amounts, (2,)), (shown_pot, (LOST,)),
            (shown_paper, (paper_for(*RECKONERS[1]),)),
        ):
            told = call(*things)
            kept = list(told)
            told.reverse()
            told.append(None)
            told[0] = None
            self.assertTrue(same_kind(call(*things), kept))


if __name__ == "__main__":
    unittest.main()
