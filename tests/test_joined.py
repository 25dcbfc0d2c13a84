import itertools
import random
import unittest

from dropsums.checker import lets_paper
from dropsums.coming import all_from
from dropsums.errors import NoJoin, NoPaper
from dropsums.finding import paper_for
from dropsums.joined import lets_joined
from dropsums.making import made
from dropsums.orders import chosen
from dropsums.together import asked_in_a_row, put_together
from helper import (
    HALF, LESSER, MORE, ODD_THINGS, RECKONERS, STILL, SUM, begun, leads, others_for, paths_of, same_kind, unchanged_by,
    with_other, within,
)

RULES, INPUTS, BEGIN, ANSWER = 1, 2, 3, 4

ONE, OTHER = ((1, 0), 0), ((0, 1), 0)
LEAST = ("least", ONE, OTHER)
PART = ("part", ((1,), 0), 2)
MORE_ASK = ("more", ONE, OTHER)
LESSER_PAPER, HALF_PAPER, MORE_PAPER = paper_for(LESSER, LEAST), paper_for(HALF, PART), paper_for(MORE, MORE_ASK)


def told(one, one_ask, other, other_ask, k, thing):
    """None where it is let by, else the refusal's fields."""
    try:
        return None if lets_joined(one, one_ask, other, other_ask, k, thing) is True else "no"
    except NoPaper as refusal:
        return (refusal.word, refusal.at)


def fault_of_paper(pot, ask, paper):
    try:
        lets_paper(pot, ask, paper)
    except NoPaper as refusal:
        return (refusal.word, refusal.at)
    return None


def due(one, one_ask, other, other_ask, thing):
    """Point 54 by hand."""
    if type(thing) is not tuple or len(thing) != 2:
        return ("shape", 0)
    fault = fault_of_paper(one, one_ask, thing[0]) or fault_of_paper(other, other_ask, thing[1])
    if fault is not None:
        return fault
    for number, (takes, gives) in enumerate(one[RULES]):
        if takes[one[ANSWER]] > 0:
            return ("taken", number)
    return None


class TestJoined(unittest.TestCase):
    def refused(self, thing, word, at, k=0):
        self.assertTrue(same_kind(told(LESSER, LEAST, HALF, PART, k, thing), (word, at)), thing)

    def test_two_right_papers(self):
        self.assertIs(lets_joined(LESSER, LEAST, HALF, PART, 0, (LESSER_PAPER, HALF_PAPER)), True)
        for k in (0, 1):
            self.assertIs(lets_joined(HALF, PART, LESSER, LEAST, k, (HALF_PAPER, LESSER_PAPER)), True)
            self.assertIs(lets_joined(LESSER, LEAST, LESSER, LEAST, k, (LESSER_PAPER, LESSER_PAPER)), True)
            # What the other takes of its answer doesn't matter.
            self.assertIs(lets_joined(HALF, PART, MORE, MORE_ASK, k, (HALF_PAPER, MORE_PAPER)), True)

    def test_whether_they_are_put_together_is_not_asked(self):
        # Two pots with more than 99 drops of the one sort at first.
        one = with_other(SUM, (BEGIN, 2), 99)
        ask = ("sum", ((2, 1), 99))
        other = with_other(HALF, (BEGIN, 0), 1)
        other_ask = ("part", ((1,), 1), 2)
        papers = (paper_for(one, ask), paper_for(other, other_ask))
        self.assertRaises(NoJoin, put_together, one, other, 0)
        self.assertIs(lets_joined(one, ask, other, other_ask, 0, papers), True)

    def test_no_tuple_of_two(self):
        both = (LESSER_PAPER, HALF_PAPER)
        for thing in ODD_THINGS + (
            list(both), both + (HALF_PAPER,), both[:1], both + (None,), {0: both[0], 1: both[1]}, LESSER_PAPER,
            HALF_PAPER, (both,), "ab",
        ):
            self.refused(thing, "shape", 0)

    def test_the_ones_fault(self):
        for path, other, word, at in (
            ((), None, "shape", 0), ((0,), (), "leaf", 0), ((0, 0), (1, 1, 1), "kept", 0), ((0, 1), (1, 1, 0), "kept", 1),
            ((1,), (0, 0, 0), "height", 0), ((2,), ("shut", ()), "leaf", 0), ((2, 2, 1), ("shut", ()), "leaf", 1),
            ((2, 1), 5, "shape", 0), ((2, 1), True, "shape", 0),
        ):
            wrong = with_other(LESSER_PAPER, path, other)
            self.refused((wrong, HALF_PAPER), word, at)
            # It goes ahead of the other's.
            self.refused((wrong, None), word, at)
            self.refused((wrong, with_other(HALF_PAPER, (0, 0), (1, 1))), word, at)
        self.refused((HALF_PAPER, LESSER_PAPER), "shape", 0)

    def test_the_others_fault(self):
        for path, other, word, at in (
            ((), None, "shape", 0), ((0, 0), (1, 1), "kept", 0), ((1,), (1, 2), "height", 0),
            ((2,), ("shut", ()), "leaf", 0), ((2, 1), 5, "shape", 0),
        ):
            self.refused((LESSER_PAPER, with_other(HALF_PAPER, path, other)), word, at)
        # Its own paper, but for the one's ask.
        self.refused((LESSER_PAPER, LESSER_PAPER), "shape", 0)

    def test_taken(self):
        for one, one_ask, rule in ((MORE, MORE_ASK, 1), RECKONERS[3] + (3,), RECKONERS[5] + (0,)):
            paper = paper_for(one, one_ask)
            self.assertTrue(same_kind(told(one, one_ask, HALF, PART, 0, (paper, HALF_PAPER)), ("taken", rule)))
            # All else goes ahead of it.
            self.assertEqual(told(one, one_ask, HALF, PART, 0, (paper, None)), ("shape", 0))
            self.assertEqual(
                told(one, one_ask, HALF, PART, 0, (paper, with_other(HALF_PAPER, (1,), (0, 0)))), ("height", 0),
            )
            self.assertEqual(
                told(one, one_ask, HALF, PART, 0, (with_other(paper, (2,), ("shut", ())), HALF_PAPER)), ("leaf", 0),
            )
            self.assertEqual(told(one, one_ask, HALF, PART, 0, [paper, HALF_PAPER]), ("shape", 0))

    def test_one_thing_otherwise(self):
        words = []
        for one, one_ask, other, other_ask in (
            (LESSER, LEAST, HALF, PART), (MORE, MORE_ASK, HALF, PART), (STILL, ("sum", ((), 5)), HALF, PART),
        ):
            both = (paper_for(one, one_ask), paper_for(other, other_ask))
            for path in paths_of(both):
                for part in others_for(within(both, path)):
                    thing = with_other(both, path, part)
                    answer = told(one, one_ask, other, other_ask, 0, thing)
                    self.assertTrue(same_kind(answer, due(one, one_ask, other, other_ask, thing)), (thing, answer))
                    words.append(answer and answer[0])
        for word in (None, "shape", "kept", "height", "leaf", "taken"):
            self.assertTrue(words.count(word) > 20, (word, words.count(word)))

    def test_nothing_is_changed(self):
        self.assertTrue(unchanged_by(lets_joined, LESSER, LEAST, HALF, PART, 0, (LESSER_PAPER, HALF_PAPER)))
        self.assertTrue(unchanged_by(lets_joined, LESSER, LEAST, HALF, PART, 0, [[LESSER_PAPER], {"a": [1]}]))
        self.assertTrue(unchanged_by(lets_joined, MORE, MORE_ASK, HALF, PART, 0, (MORE_PAPER, HALF_PAPER)))


class TestPutTogether(unittest.TestCase):
    """What a joined paper says of the pot put together, walked."""

    def ends_rightly(self, chance, one, one_ask, other, other_ask, k):
        """Whether they are joined and put together; then they come to what both in a row ask for."""
        thing = (paper_for(one, one_ask), paper_for(other, other_ask))
        if told(one, one_ask, other, other_ask, k, thing) is not None:
            return False
        try:
            pot = put_together(one, other, k)
        except NoJoin:
            return False
        many = len(one[INPUTS])
        for amounts in itertools.product(range(3), repeat=len(pot[INPUTS])):
            stands = all_from(pot, begun(pot, amounts), 60)
            if stands is not None:
                answers = {stand[pot[ANSWER]] for stand in stands if not leads(pot, stand)}
                self.assertEqual(answers, {asked_in_a_row(many, one_ask, other_ask, k, amounts)})
        for turn in range(12):
            amounts = tuple(chance.choice((0, 1, 7, chance.randint(0, 40))) for place in pot[INPUTS])
            numbers = [chance.randrange(99) for number in range(17)]
            order, stand = chosen(pot, begun(pot, amounts), numbers, 2000)
            self.assertEqual(leads(pot, stand), [])
            self.assertEqual(stand[pot[ANSWER]], asked_in_a_row(many, one_ask, other_ask, k, amounts))
        return True

    def test_reckoners(self):
        chance = random.Random(151)
        joined = 0
        for one, one_ask in RECKONERS:
            for other, other_ask in RECKONERS:
                for k in range(len(other[INPUTS])):
                    joined += self.ends_rightly(chance, one, one_ask, other, other_ask, k)
        self.assertTrue(joined > 20, joined)

    def test_pots_that_were_made(self):
        chance = random.Random(152)
        joined = 0
        firsts = (("sum", ((2,), 1)), ("part", ((3,), 1), 2), LEAST, ("least", ((2,), 1), ((1,), 3)))
        seconds = (
            ("sum", ((3,), 0)), ("part", ((1,), 2), 3), ("part", ((2, 1), 0), 3), LEAST, ("most", ONE, OTHER), MORE_ASK,
            ("more", ((1,), 0), ((0,), 4)), ("same", ONE, OTHER), ("same", ((1,), 0), ((0,), 3)),
        )
        for one_ask in firsts:
            one = made(len(one_ask[1][0]), one_ask)[0]
            for other_ask in seconds:
                other = made(len(other_ask[1][0]), other_ask)[0]
                for k in range(len(other[INPUTS])):
                    joined += self.ends_rightly(chance, one, one_ask, other, other_ask, k)
        self.assertTrue(joined > 20, joined)


if __name__ == "__main__":
    unittest.main()
