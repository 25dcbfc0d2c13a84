import itertools
import random
import unittest
from unittest import mock

from dropsums.asks import asked
from dropsums.checker import lets_paper
from dropsums.coming import all_from, ended_of
from dropsums.fewest import fewest, lesser
from dropsums.finding import paper_for
from dropsums.pots import is_pot
from helper import begun, random_ask, same_kind, unchanged_by

RULES, ANSWER = 1, 4


def sides(many):
    """All sides with at most two drops in all, rising."""
    return [side for side in itertools.product(range(3), repeat=many) if sum(side) <= 2]


def rules_of(many):
    return [(takes, gives) for takes in sides(many) for gives in sides(many) if any(takes) and takes != gives]


def laid(many, rules):
    """Point 49's list, laid by hand."""
    sorts = ("a", "b", "c")[:many + 1]
    inputs = ((0,), (0, 1))[many - 1]
    return [
        (sorts, chosen, inputs, (0,) * (many + 1), many)
        for chosen in itertools.combinations(rules_of(many + 1), rules)
    ]


class TestLesser(unittest.TestCase):
    def test_the_very_lists(self):
        for many in (1, 2):
            for rules in (0, 1, 2):
                self.assertTrue(same_kind(lesser(many, rules), laid(many, rules)), (many, rules))

    def test_how_many(self):
        counts = {(many, rules): len(lesser(many, rules)) for many in (1, 2) for rules in (0, 1, 2)}
        self.assertEqual(counts, {(1, 0): 1, (1, 1): 25, (1, 2): 300, (2, 0): 1, (2, 1): 81, (2, 2): 3240})

    def test_the_first_ones(self):
        self.assertEqual(lesser(1, 0), [(("a", "b"), (), (0,), (0, 0), 1)])
        self.assertEqual(lesser(2, 0), [(("a", "b", "c"), (), (0, 1), (0, 0, 0), 2)])
        self.assertEqual([pot[RULES] for pot in lesser(1, 1)[:7]], [
            (((0, 1), (0, 0)),), (((0, 1), (0, 2)),), (((0, 1), (1, 0)),), (((0, 1), (1, 1)),), (((0, 1), (2, 0)),),
            (((0, 2), (0, 0)),), (((0, 2), (0, 1)),),
        ])
        self.assertEqual(lesser(1, 1)[-1][RULES], (((2, 0), (1, 1)),))
        self.assertEqual([pot[RULES] for pot in lesser(1, 2)[:2]], [
            (((0, 1), (0, 0)), ((0, 1), (0, 2))), (((0, 1), (0, 0)), ((0, 1), (1, 0))),
        ])
        self.assertEqual(lesser(1, 2)[24][RULES], (((0, 1), (0, 2)), ((0, 1), (1, 0))))
        self.assertEqual(lesser(2, 1)[0][RULES], (((0, 0, 1), (0, 0, 0)),))

    def test_they_are_pots(self):
        for many in (1, 2):
            for rules in (0, 1, 2):
                self.assertTrue(all(is_pot(pot) for pot in lesser(many, rules)))

    def test_told_lists_are_the_askers_own(self):
        for many in (1, 2):
            for rules in (0, 1, 2):
                told = lesser(many, rules)
                told[0] = None
                told.append(None)
                self.assertEqual(lesser(many, rules), laid(many, rules))


class TestFewest(unittest.TestCase):
    def told(self, many, ask):
        """How many rules the told pot has, or None; all that is promised of it is looked at."""
        told = fewest(many, ask)
        self.assertIs(type(told), tuple)
        most = 2 if many == 1 else 1
        if told[0] == "none":
            self.assertTrue(same_kind(told, ("none",)))
            self.assertTrue(self.none_has_a_paper(many, most + 1, ask), ask)
            return None
        self.assertEqual(told[0], "pot")
        word, pot, paper = told
        rules = len(pot[RULES])
        self.assertIn(pot, laid(many, rules))
        self.assertIs(lets_paper(pot, ask, paper), True)
        self.assertTrue(rules <= most)
        self.assertTrue(self.none_has_a_paper(many, rules, ask), ask)
        return rules

    def none_has_a_paper(self, many, rules, ask):
        return all(paper_for(pot, ask) is None for fewer in range(rules) for pot in laid(many, fewer))

    def test_no_rule(self):
        for many, ask in (
            (1, ("sum", ((0,), 0))), (2, ("sum", ((0, 0), 0))), (1, ("more", ((0,), 0), ((1,), 0))),
            (2, ("more", ((0, 0), 0), ((1, 1), 0))), (1, ("least", ((1,), 0), ((0,), 0))), (1, ("part", ((0,), 1), 2)),
            (2, ("part", ((0, 0), 8), 9)), (1, ("most", ((-1,), 0), ((0,), 0))), (1, ("same", ((1,), 0), ((1,), 1))),
        ):
            self.assertEqual(self.told(many, ask), 0, ask)

    def test_one_rule(self):
        one, other = ((1, 0), 0), ((0, 1), 0)
        for many, ask in (
            (1, ("sum", ((1,), 0))), (1, ("sum", ((2,), 0))), (1, ("part", ((1,), 0), 2)), (1, ("part", ((4,), 1), 2)),
            (1, ("most", ((1,), 0), ((2,), 0))), (2, ("sum", one)), (2, ("sum", other)), (2, ("sum", ((0, 2), 0))),
            (2, ("least", one, other)), (2, ("least", other, one)), (2, ("least", ((2, 0), 0), ((0, 2), 0))),
            (2, ("part", one, 2)), (2, ("part", other, 2)),
        ):
            self.assertEqual(self.told(many, ask), 1, ask)

    def test_none(self):
        one, other = ((1, 0), 0), ((0, 1), 0)
        for many, ask in (
            (1, ("sum", ((3,), 0))), (1, ("sum", ((0,), 1))), (1, ("sum", ((1,), 1))), (1, ("part", ((1,), 1), 2)),
            (1, ("part", ((1,), 0), 3)), (1, ("sum", ((-1,), 0))), (2, ("most", one, other)), (2, ("more", one, other)),
            (2, ("same", one, other)), (2, ("sum", ((1, 2), 3))), (1, ("same", ((1,), 0), ((0,), 0))),
        ):
            self.assertIsNone(self.told(many, ask), ask)

    def test_two_rules_that_keep_an_ask_without_a_plain_paper(self):
        # An a becomes a b, two b become one: so there is one where there was any. But nothing stays.
        for ask, rules in (
            (("more", ((1,), 0), ((0,), 0)), (((0, 2), (0, 1)), ((1, 0), (0, 1)))),
            (("least", ((1,), 0), ((0,), 1)), (((0, 2), (0, 1)), ((1, 0), (0, 1)))),
            (("more", ((1,), 0), ((0,), 1)), (((0, 2), (0, 1)), ((2, 0), (0, 1)))),
        ):
            pot = (("a", "b"), rules, (0,), (0, 0), 1)
            self.assertIn(pot, lesser(1, 2))
            for amount in range(6):
                ends = ended_of(pot, all_from(pot, begun(pot, (amount,)), 2000))
                self.assertEqual({stand[pot[ANSWER]] for stand in ends}, {asked(ask, (amount,))})
            self.assertIsNone(self.told(1, ask))

    def test_two_rules_are_not_sought_for_two_inputs(self):
        pot = (("a", "b", "c"), (((0, 1, 0), (0, 0, 1)), ((1, 0, 0), (0, 0, 1))), (0, 1), (0, 0, 0), 2)
        self.assertIn(pot, lesser(2, 2))
        self.assertIsNotNone(paper_for(pot, ("sum", ((1, 1), 0))))
        self.assertIsNone(self.told(2, ("sum", ((1, 1), 0))))

    def test_all_are_gone_through(self):
        # No ask is known here for which one input wants just two rules: so it is looked at which pots are tried.
        for many, most in ((1, 2), (2, 1)):
            tried = []
            with mock.patch("dropsums.fewest.paper_for", lambda pot, ask: tried.append(pot)):
                self.assertEqual(fewest(many, ("sum", ((1,) * many, 0))), ("none",))
            self.assertEqual(sorted(tried), sorted(pot for rules in range(most + 1) for pot in laid(many, rules)))
        for pot in (laid(1, 2)[0], laid(1, 2)[150], laid(1, 2)[-1]):
            with mock.patch("dropsums.fewest.paper_for", lambda other, ask: "paper" if other == pot else None):
                self.assertEqual(fewest(1, ("sum", ((1,), 0))), ("pot", pot, "paper"))

    def test_drawn_asks(self):
        chance = random.Random(131)
        told = []
        for turn in range(60):
            many = chance.choice((1, 1, 2))
            told.append(self.told(many, random_ask(chance, many, 2)))
        self.assertTrue(told.count(0) > 5 and told.count(None) > 5, told)

    def test_the_same_each_time(self):
        for many, ask in ((1, ("sum", ((2,), 0))), (2, ("least", ((1, 0), 0), ((0, 1), 0))), (1, ("sum", ((3,), 0)))):
            self.assertTrue(same_kind(fewest(many, ask), fewest(many, ask)))

    def test_nothing_is_changed(self):
        self.assertTrue(unchanged_by(fewest, 1, ("sum", ((2,), 0))))
        self.assertTrue(unchanged_by(fewest, 2, ("most", ((1, 0), 0), ((0, 1), 0))))
        self.assertTrue(unchanged_by(lesser, 1, 2))


if __name__ == "__main__":
    unittest.main()
