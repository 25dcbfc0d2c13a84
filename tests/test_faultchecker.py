import random
import unittest

from dropsums.asks import asked
from dropsums.errors import NoFault
from dropsums.faultchecker import lets_fault
from helper import (
    HALF, LESSER, LOST, MORE, ODD_THINGS, RECKONERS, STILL, begun, leads, others_for, paths_of, random_ask, same_kind,
    sought_pot, unchanged_by, with_other, within,
)

SORTS, RULES, INPUTS, BEGIN, ANSWER = range(5)

ALL = ("sum", ((1,), 0))

# From a drop of a comes a b or a c; two b become one.
FORK = (
    ("a", "b", "c"),
    (((1, 0, 0), (0, 1, 0)), ((1, 0, 0), (0, 0, 1)), ((0, 2, 0), (0, 1, 0))),
    (0,),
    (0, 0, 0),
    1,
)

# Each b becomes a c.
CHAIN = (("b", "c", "y"), (((1, 0, 0), (0, 1, 0)),), (0,), (0, 0, 0), 2)

WRONG = ("wrong", (5,), (0, 0))
UNLIKE = ("unlike", (1,), (0,), (1,))
NEVER_STANDS = ((0, 0, 1, 0), (0, 1, 0, 0))
NEVER = ("never", (1,), (1, 2, 3), NEVER_STANDS)

RIGHT = ((HALF, ALL, WRONG), (FORK, ALL, UNLIKE), (LOST, ALL, NEVER))


class Looked:
    """Point 44 once more, as plainly as it is told: what a thing is refused with, or None."""

    def __init__(self, pot, ask):
        self.pot = pot
        self.ask = ask

    def refusal(self, thing):
        if not self.is_fault(thing):
            return ("shape", 0)
        word, amounts, order, *rest = thing
        walks = [self.walk(amounts, order)] + [self.walk(amounts, other) for other in rest if word == "unlike"]
        for stand, place in walks:
            if place is not None:
                return ("order", place)
        ends = [stand for stand, place in walks]
        due = asked(self.ask, amounts)
        if word == "never":
            return self.of_never(ends[0], rest[0], due)
        for number, stand in enumerate(ends):
            if leads(self.pot, stand):
                return ("ended", number)
        answers = [stand[self.pot[ANSWER]] for stand in ends]
        same = answers[0] == (due if word == "wrong" else answers[1])
        return ("answer", 0) if same else None

    def of_never(self, stand, stands, due):
        if stand not in stands:
            return ("stand", 0)
        for number, one in enumerate(stands):
            if not {led for rule, led in leads(self.pot, one)} <= set(stands):
                return ("leads", number)
        for number, one in enumerate(stands):
            if one[self.pot[ANSWER]] == due:
                return ("answer", number)
        return None

    def is_fault(self, thing):
        if type(thing) is not tuple or len(thing) not in (3, 4) or type(thing[0]) is not str:
            return False
        if not self.are_counts(thing[1]) or len(thing[1]) != len(self.pot[INPUTS]) or not self.are_counts(thing[2]):
            return False
        if thing[0] == "wrong":
            return len(thing) == 3
        if thing[0] == "unlike":
            return len(thing) == 4 and self.are_counts(thing[3])
        return thing[0] == "never" and len(thing) == 4 and self.are_stands(thing[3])

    def are_counts(self, thing):
        return type(thing) is tuple and all(type(count) is int and count >= 0 for count in thing)

    def are_stands(self, thing):
        if type(thing) is not tuple or not 1 <= len(thing) <= 400:
            return False
        many = len(self.pot[SORTS])
        if not all(self.are_counts(stand) and len(stand) == many for stand in thing):
            return False
        return list(thing) == sorted(set(thing))

    def walk(self, amounts, order):
        stand = begun(self.pot, amounts)
        for place, rule in enumerate(order):
            led = dict(leads(self.pot, stand))
            if rule not in led:
                return (stand, place)
            stand = led[rule]
        return (stand, None)


def told(pot, ask, thing):
    """None where it is let by, else the refusal's fields."""
    try:
        return None if lets_fault(pot, ask, thing) is True else "no"
    except NoFault as refusal:
        return (refusal.word, refusal.at)


class TestFaults(unittest.TestCase):
    def refused(self, pot, ask, thing, word, at):
        self.assertTrue(same_kind(told(pot, ask, thing), (word, at)), (thing, told(pot, ask, thing)))

    def test_right_ones(self):
        for pot, ask, fault in RIGHT:
            self.assertIs(lets_fault(pot, ask, fault), True)
        for pot, ask, fault in (
            (STILL, ("sum", ((), 4)), ("wrong", (), ())), (STILL, ("sum", ((), 4)), ("never", (), (), ((5,),))),
            (LESSER, ("most", ((1, 0), 0), ((0, 1), 0)), ("wrong", (3, 1), (0,))),
            (LESSER, ("sum", ((1, 0), 0)), ("wrong", (10 ** 12, 0), ())),
            (MORE, ("more", ((0, 1), 0), ((1, 0), 0)), ("wrong", (2, 1), (0, 1, 0))),
            (FORK, ALL, ("unlike", (1,), (1,), (0,))), (FORK, ALL, ("wrong", (1,), (1,))),
            (FORK, ALL, ("unlike", (3,), (0, 0, 2, 0, 2), (1, 1, 1))), (FORK, ALL, ("wrong", (3,), (0, 1, 1))),
            (FORK, ALL, ("never", (1,), (1,), ((0, 0, 1),))),
            (LOST, ALL, ("never", (1,), (1,), NEVER_STANDS)), (LOST, ALL, ("never", (1,), (1, 2), NEVER_STANDS)),
            # More stands than come, but no rule leads out of them.
            (LOST, ALL, ("never", (1,), (1,), ((0, 0, 0, 5),) + NEVER_STANDS)),
        ):
            self.assertIs(lets_fault(pot, ask, fault), True, fault)

    def test_two_ends_unlike_may_be_right_by_no_ask(self):
        # Of unlike it is not asked what the ask asks for.
        for ask in (ALL, ("sum", ((0,), 0)), ("sum", ((-99,), -99)), ("more", ((1,), 0), ((0,), 0))):
            self.assertIs(lets_fault(FORK, ask, UNLIKE), True)

    def test_shape(self):
        for thing in ODD_THINGS + (
            "wrong", ("wrong",), ("wrong", (5,)), ("wrong", (5,), (0, 0), ()), ("wrong", (5,), (0, 0), ((0, 1),)),
            ("unlike", (5,), (0, 0)), ("unlike", (5,), (0, 0), (0, 0), (0, 0)), ("never", (5,), (0, 0)),
            ("never", (5,), (0, 0), ((1, 2),), ()), ["wrong", (5,), (0, 0)], ("wrong", [5], (0, 0)),
            ("wrong", (5,), [0, 0]), ("unlike", (5,), (0, 0), [0, 0]), ("never", (5,), (0, 0), [(1, 2)]),
            ("never", (5,), (0, 0), ([1, 2],)), ("right", (5,), (0, 0)), ("Wrong", (5,), (0, 0)), ("", (5,), (0, 0)),
            (True, (5,), (0, 0)), (None, (5,), (0, 0), (0, 0)), (("wrong",), (5,), (0, 0)), ("wrong", (True,), (0, 0)),
            ("wrong", (5,), (0, False)), ("unlike", (5,), (0, 0), (0, False)), ("never", (5,), (0, 0), ((True, 2),)),
            ("wrong", (-1,), ()), ("wrong", (5,), (-1,)), ("unlike", (5,), (0, 0), (-1,)),
            ("never", (5,), (0, 0), ((-1, 2),)), ("wrong", (), ()), ("wrong", (5, 5), (0, 0)), ("wrong", 5, (0, 0)),
            ("wrong", (5,), 0), ("unlike", (5,), (0, 0), 0), ("never", (5,), (0, 0), (1, 2)), ("wrong", None, None),
            ("never", (5,), (0, 0), ()), ("never", (5,), (0, 0), ((1, 2), (1, 2))),
            ("never", (5,), (0, 0), ((3, 1), (1, 2))), ("never", (5,), (0, 0), ((1, 2), (3, 1), (2, 9))),
            ("never", (5,), (0, 0), ((1, 2), (3, 1, 0))), ("never", (5,), (0, 0), ((1,),)),
            ("never", (5,), (0, 0), ((1, 2), (1, "2"))), ("never", (5,), (0, 0), ((),)),
            ("wrong", (5,), ("0", "0")), ("wrong", ("5",), (0, 0)), ("wrong", {0: 5}, (0, 0)), ("wrong", (5,), {}),
            {0: "wrong", 1: (5,), 2: (0, 0)}, ("unlike", (5,), (0, 0), None), ("never", (5,), (0, 0), None),
        ):
            self.refused(HALF, ALL, thing, "shape", 0)

    def test_four_hundred_stands(self):
        ask = ("sum", ((0,), 1))
        for many, word in ((1, None), (2, None), (399, None), (400, None), (401, "shape"), (500, "shape")):
            stands = tuple((b, many - 1 - b, 0) for b in range(many))
            thing = ("never", (many - 1,), (), stands)
            self.assertEqual(told(CHAIN, ask, thing), word and (word, 0))
            if word is None and many > 1:
                self.refused(CHAIN, ask, with_other(thing, (3,), stands[1:]), "leads", 0)
                self.refused(CHAIN, ask, with_other(thing, (3,), stands[:-1]), "stand", 0)
        # One more by a stand that is of no use.
        stands = tuple((b, 399 - b, 0) for b in range(400))
        self.refused(CHAIN, ask, ("never", (399,), (), stands + ((400, 0, 0),)), "shape", 0)

    def test_orders(self):
        for order, place in (
            ((1,), 0), ((0, 1), 1), ((0, 0, 0), 2), ((0, 0, 10 ** 39), 2), ((10 ** 39,), 0), ((0, 0, 1, 0), 2),
        ):
            self.refused(HALF, ALL, ("wrong", (5,), order), "order", place)
            self.refused(HALF, ALL, ("unlike", (5,), order, (0, 0)), "order", place)
            self.refused(HALF, ALL, ("unlike", (5,), (0, 0), order), "order", place)
            self.refused(HALF, ALL, ("unlike", (5,), (0,), order), "order", place)
            self.refused(HALF, ALL, ("never", (5,), order, ((9, 9),)), "order", place)
        self.refused(HALF, ALL, ("unlike", (5,), (0, 0, 0), (1,)), "order", 2)
        self.refused(HALF, ALL, ("unlike", (5,), (1,), (0, 0, 0)), "order", 0)
        self.refused(HALF, ALL, ("wrong", (1,), (0,)), "order", 0)
        self.refused(LOST, ALL, ("never", (1,), (1, 3), NEVER_STANDS), "order", 1)
        self.refused(LOST, ALL, ("never", (0,), (1, 2), NEVER_STANDS), "order", 0)

    def test_ended(self):
        self.refused(HALF, ALL, ("wrong", (5,), ()), "ended", 0)
        self.refused(HALF, ALL, ("wrong", (5,), (0,)), "ended", 0)
        self.refused(FORK, ALL, ("unlike", (1,), (), (1,)), "ended", 0)
        self.refused(FORK, ALL, ("unlike", (1,), (0,), ()), "ended", 1)
        self.refused(FORK, ALL, ("unlike", (1,), (), ()), "ended", 0)
        self.refused(FORK, ALL, ("unlike", (2,), (0, 0), (0, 1)), "ended", 0)
        self.refused(FORK, ALL, ("unlike", (2,), (0, 1), (0, 0)), "ended", 1)
        self.refused(LOST, ALL, ("wrong", (1,), (1, 2, 3)), "ended", 0)

    def test_answers(self):
        self.refused(HALF, ("part", ((1,), 0), 2), WRONG, "answer", 0)
        self.refused(HALF, ("sum", ((0,), 2)), WRONG, "answer", 0)
        self.refused(FORK, ALL, ("unlike", (1,), (0,), (0,)), "answer", 0)
        self.refused(FORK, ALL, ("unlike", (1,), (1,), (1,)), "answer", 0)
        # Two a may end with one b by two ways, and with none.
        self.refused(FORK, ALL, ("unlike", (2,), (0, 0, 2), (1, 0)), "answer", 0)
        self.assertIs(lets_fault(FORK, ALL, ("unlike", (2,), (0, 0, 2), (1, 1))), True)

    def test_never(self):
        # 4 stands: y is 0, 1, 0, 0.
        stands = ((0, 0, 0, 0), (0, 0, 0, 1)) + NEVER_STANDS
        self.refused(LOST, ALL, ("never", (1,), (1,), stands), "answer", 1)
        self.refused(LOST, ("sum", ((0,), 0)), ("never", (1,), (1,), stands), "answer", 0)
        self.refused(LOST, ("sum", ((0,), 0)), ("never", (1,), (1,), stands[1:]), "answer", 1)
        self.refused(LOST, ALL, ("never", (1,), (0,), NEVER_STANDS), "stand", 0)
        self.refused(LOST, ALL, ("never", (1,), (), NEVER_STANDS), "stand", 0)
        self.refused(LOST, ALL, ("never", (1,), (1,), NEVER_STANDS[:1]), "stand", 0)
        self.refused(LOST, ALL, ("never", (1,), (1,), NEVER_STANDS[1:]), "leads", 0)
        self.refused(LOST, ALL, ("never", (1,), (1, 2), NEVER_STANDS[:1]), "leads", 0)
        for number, stand in ((2, (1, 0, 0, 0)), (0, (0, 0, 0, 9))):
            more = tuple(sorted(NEVER_STANDS + (stand,)))
            self.assertEqual(told(LOST, ALL, ("never", (1,), (1,), more)), ("leads", number) if number else None)
        # The first of them goes, of leads and of the answer; leads ahead of the answer.
        more = tuple(sorted(stands + ((1, 0, 0, 0), (2, 0, 0, 0))))
        self.refused(LOST, ALL, ("never", (1,), (1,), more), "leads", 5)
        self.refused(LOST, ALL, ("never", (1,), (1,), ((0, 0, 0, 1), (0, 0, 2, 1)) + NEVER_STANDS[1:]), "leads", 1)
        self.refused(LOST, ALL, ("never", (1,), (1,), ((0, 0, 0, 1),) + NEVER_STANDS[1:]), "leads", 1)
        self.refused(LOST, ALL, ("never", (1,), (0,), ((0, 0, 0, 2), (1, 0, 0, 0))), "stand", 0)
        self.refused(LOST, ALL, ("never", (1,), (0,), ((0, 0, 0, 1), (1, 0, 0, 0))), "leads", 1)

    def test_the_first_one_due(self):
        for pot, thing, word, at in (
            (FORK, ("unlike", (2,), (0, 1), (0, 1)), "answer", 0), (FORK, ("unlike", (2,), (0, 1), (0,)), "ended", 1),
            (FORK, ("unlike", (2,), (0,), (0,)), "ended", 0), (FORK, ("unlike", (2,), (0,), (0, 2)), "order", 1),
            (FORK, ("unlike", (2,), (2,), (0, 2)), "order", 0), (FORK, ("unlike", (2,), (2,), (-1,)), "shape", 0),
            (LOST, ("never", (1,), (), ((0, 0, 0, 1), (0, 0, 1, 0))), "stand", 0),
            (LOST, ("never", (1,), (0, 0), ((0, 0, 0, 1), (0, 0, 1, 0))), "order", 1),
            (LOST, ("never", (1,), (0, 0), ((0, 0, 1, 0), (0, 0, 0, 1))), "shape", 0),
        ):
            self.refused(pot, ALL, thing, word, at)

    def test_asks_that_come_below_0(self):
        for ask in (("sum", ((-1,), 1)), ("sum", ((0,), -1)), ("part", ((-1,), 0), 9), ("least", ((1,), 0), ((0,), -3))):
            self.assertIs(lets_fault(HALF, ask, WRONG), True)
            self.assertIs(lets_fault(HALF, ask, ("never", (5,), (0, 0), ((1, 2),))), True)
            self.assertIs(lets_fault(HALF, ask, ("never", (5,), (), ((1, 2), (3, 1), (5, 0)))), True)
        self.refused(HALF, ("sum", ((-1,), 7)), WRONG, "answer", 0)
        self.refused(HALF, ("sum", ((-1,), 7)), ("never", (5,), (), ((1, 2), (3, 1), (5, 0))), "answer", 0)
        self.refused(HALF, ("sum", ((-1,), 5)), ("never", (5,), (), ((1, 2), (3, 1), (5, 0))), "answer", 2)

    def test_long_orders_and_large_counts(self):
        self.assertIs(lets_fault(HALF, ALL, ("wrong", (4001,), (0,) * 2000)), True)
        self.refused(HALF, ALL, ("wrong", (3999,), (0,) * 2000), "order", 1999)
        large = 10 ** 12
        self.refused(HALF, ALL, ("wrong", (large,), (0,) * 2000), "ended", 0)
        self.refused(CHAIN, ("sum", ((0,), 0)), ("never", (0,), (), ((0, 0, 0), (0, large, large))), "answer", 0)
        self.assertIs(lets_fault(CHAIN, ("sum", ((0,), 1)), ("never", (0,), (), ((0, 0, 0), (0, large, large)))), True)

    def test_right_papers_have_no_fault(self):
        # Pots that keep their ask: whatever is put together here is refused.
        chance = random.Random(101)
        for pot, ask in RECKONERS:
            for turn in range(60):
                amounts = tuple(chance.randint(0, 3) for place in pot[INPUTS])
                stand, order, way = begun(pot, amounts), (), [begun(pot, amounts)]
                while leads(pot, stand):
                    rule, stand = chance.choice(leads(pot, stand))
                    order += (rule,)
                    way.append(stand)
                self.refused(pot, ask, ("wrong", amounts, order), "answer", 0)
                self.refused(pot, ask, ("unlike", amounts, order, order), "answer", 0)
                self.refused(pot, ask, ("never", amounts, order, (stand,)), "answer", 0)
                self.assertIn(told(pot, ask, ("never", amounts, (), tuple(sorted(way))))[0], ("leads", "answer"))


class TestAnyThing(unittest.TestCase):
    """Right faults with one thing otherwise at each place, and drawn ones, looked at twice."""

    def looked_at(self, pot, ask, thing):
        answer = told(pot, ask, thing)
        self.assertTrue(same_kind(answer, Looked(pot, ask).refusal(thing)), (pot, ask, thing, answer))
        return answer and answer[0]

    def test_one_thing_otherwise(self):
        words = []
        for pot, ask, fault in RIGHT + ((FORK, ALL, ("unlike", (3,), (0, 0, 2, 0, 2), (1, 1, 1))),):
            for path in paths_of(fault):
                for other in list(others_for(within(fault, path))) + ["wrong", "unlike", "never", (5,), NEVER_STANDS]:
                    words.append(self.looked_at(pot, ask, with_other(fault, path, other)))
        for word in (None, "shape", "order", "ended", "stand", "leads"):
            self.assertTrue(words.count(word) > 3, (word, words.count(word)))

    def drawn_order(self, chance, pot, amounts):
        stand, order = begun(pot, amounts), ()
        while leads(pot, stand) and len(order) < 12 and chance.random() < 0.95:
            rule, stand = chance.choice(leads(pot, stand))
            order += (rule,)
        if chance.random() < 0.2:
            order += (chance.randint(0, 4),)
        return order

    def drawn_stands(self, chance, pot, amounts, order):
        stand = begun(pot, amounts)
        for rule in order:
            stand = dict(leads(pot, stand)).get(rule, stand)
        stands = [stand]
        for one in stands:
            if len(stands) < 30:
                stands.extend(led for rule, led in leads(pot, one) if led not in stands and chance.random() < 0.98)
        if chance.random() < 0.1:
            stands.append(tuple(chance.randint(0, 2) for sort in pot[SORTS]))
        if chance.random() < 0.2 and len(stands) > 1:
            stands.pop(0)
        return tuple(sorted(set(stands)))

    def test_drawn_ones(self):
        chance = random.Random(102)
        words = []
        for turn in range(3000):
            pot = sought_pot(chance)
            ask = random_ask(chance, len(pot[INPUTS]), 2)
            amounts = tuple(chance.randint(0, 2) for place in pot[INPUTS])
            order = self.drawn_order(chance, pot, amounts)
            thing = chance.choice((
                ("wrong", amounts, order),
                ("unlike", amounts, order, self.drawn_order(chance, pot, amounts)),
                ("never", amounts, order, self.drawn_stands(chance, pot, amounts, order)),
            ))
            words.append(self.looked_at(pot, ask, thing))
        for word in (None, "order", "ended", "answer", "stand", "leads"):
            self.assertTrue(words.count(word) > 20, (word, words.count(word)))

    def test_nothing_is_changed(self):
        for pot, ask, fault in RIGHT:
            self.assertTrue(unchanged_by(lets_fault, pot, ask, fault))
        for thing in (["wrong", [5], [0, 0]], {"wrong": [(5,), {0: [0]}]}, ("never", (5,), (0, 0), [[1, 2], [3, 1]])):
            self.assertTrue(unchanged_by(lets_fault, HALF, ALL, thing))


if __name__ == "__main__":
    unittest.main()
