import random
import unittest

from dropsums.facts import contrary, facts_of, form_at, form_weighed, holds, shuts
from dropsums.orders import chosen, stands_on
from dropsums.pots import beginning
from dropsums.staying import all_kept
from helper import (
    HELPED, LARGE, LESSER, MORE, ODD_THINGS, POTS, SAME, STILL, added_up, paths_of, random_pot, same_kind, unchanged_by,
    with_other, within,
)

SORTS, RULES, INPUTS, BEGIN = range(4)


def random_form(chance, inputs, sorts, most=5):
    return (
        tuple(chance.randint(-most, most) for place in range(inputs)),
        tuple(chance.randint(-most, most) for sort in range(sorts)),
        chance.randint(-most, most),
    )


class TestForms(unittest.TestCase):
    form = ((2, -1), (3, 0, -4), 5)

    def test_form_at(self):
        self.assertTrue(same_kind(form_at(self.form, (0, 0), (0, 0, 0)), 5))
        self.assertTrue(same_kind(form_at(self.form, (10, 1), (100, 7, 20)), 5 + 20 - 1 + 300 - 80))
        self.assertEqual(form_at(((), (1,), 0), (), (9,)), 9)
        self.assertEqual(form_at(((1,), (0,), -3), (1,), (9,)), -2)
        large = 10 ** 12
        self.assertEqual(form_at(((large,), (-large,), 1), (large,), (large,)), 1)

    def test_holds_at_0_and_at_minus_1(self):
        for plus, right in ((-3, False), (-2, False), (-1, True), (0, True), (1, True)):
            # By amount 1 and stand (2,) this comes to 1 and plus.
            self.assertIs(holds(((3,), (-1,), plus), (1,), (2,)), right)
        self.assertIs(holds(((), (0,), 0), (), (5,)), True)
        self.assertIs(holds(((), (0,), -1), (), (5,)), False)
        self.assertIs(holds(((), (1,), -5), (), (5,)), True)
        self.assertIs(holds(((), (1,), -6), (), (5,)), False)

    def test_contrary(self):
        self.assertTrue(same_kind(contrary(self.form), ((-2, 1), (-3, 0, 4), -6)))
        self.assertTrue(same_kind(contrary(((), (0,), 0)), ((), (0,), -1)))
        self.assertTrue(same_kind(contrary(((), (0,), -1)), ((), (0,), 0)))
        self.assertTrue(same_kind(contrary(contrary(self.form)), self.form))

    def test_of_a_form_and_its_contrary_just_one_holds(self):
        chance = random.Random(51)
        met = set()
        for turn in range(500):
            form = random_form(chance, chance.randint(0, 3), chance.randint(1, 8))
            amounts = tuple(chance.randint(0, 3) for place in form[0])
            stand = tuple(chance.randint(0, 3) for sort in form[1])
            one, other = holds(form, amounts, stand), holds(contrary(form), amounts, stand)
            self.assertIsNot(one, other)
            self.assertIs(one, form_at(form, amounts, stand) >= 0)
            met.add(form_at(form, amounts, stand))
        self.assertTrue({-1, 0, 1} <= met)


class TestWeighed(unittest.TestCase):
    forms = [((1,), (2, 3), 4), ((0,), (-1, 0), 1), ((-5,), (0, 7), -9)]

    def test_weighed(self):
        for weights, form in (
            ((), ((0,), (0, 0), 0)), (((0, 1),), self.forms[0]), (((2, 3),), ((-15,), (0, 21), -27)),
            (((0, 5), (2, 1)), ((0,), (10, 22), 11)), (((0, 1), (1, 2), (2, 3)), ((-14,), (0, 24), -21)),
            (((1, 10 ** 39),), ((0,), (-(10 ** 39), 0), 10 ** 39)),
        ):
            self.assertTrue(same_kind(form_weighed(self.forms, weights), form), weights)

    def test_void_weights(self):
        for many in (1, 2, 3):
            self.assertTrue(same_kind(form_weighed(self.forms[:many], ()), ((0,), (0, 0), 0)))
        self.assertTrue(same_kind(form_weighed([((), (3,), -1)], ()), ((), (0,), 0)))

    def test_what_it_comes_to(self):
        chance = random.Random(52)
        for turn in range(200):
            forms = [random_form(chance, 2, 3) for form in range(chance.randint(1, 6))]
            weights = tuple((number, chance.randint(1, 9)) for number in range(len(forms)) if chance.random() < 0.5)
            amounts, stand = (3, 10 ** 12), (5, 0, 7)
            self.assertEqual(
                form_at(form_weighed(forms, weights), amounts, stand),
                sum(times * form_at(forms[number], amounts, stand) for number, times in weights),
            )


class TestShuts(unittest.TestCase):
    # Twice the amount is no more than the drops; the drops are less than the amount; and so on.
    forms = [((-2,), (1,), 0), ((1,), (-1,), -1), ((1,), (0,), 0), ((0,), (0,), 0), ((0,), (0,), -1), ((0,), (0,), 1)]
    right = ((0, 1), (1, 1), (2, 1))

    def test_weights_that_shut(self):
        for weights in (
            self.right, ((4, 1),), ((4, 7),), ((0, 9), (1, 9), (2, 9)), ((3, 5), (4, 1)), ((4, 2), (5, 1)),
            ((0, 1), (1, 1), (2, 1), (3, 1)), ((4, 10 ** 40), (5, 10 ** 40 - 1)),
        ):
            self.assertIs(shuts(self.forms, weights), True, weights)

    def test_one_number_or_time_otherwise(self):
        for weights in (
            ((0, 2), (1, 1), (2, 1)), ((0, 1), (1, 2), (2, 1)), ((0, 1), (1, 1), (2, 2)), ((0, 1), (1, 1)),
            ((0, 1), (2, 1)), ((1, 1), (2, 1)), ((0, 1), (1, 1), (3, 1)), ((0, 1),), ((2, 1),), ((5, 1),),
            ((0, 1), (1, 1), (2, 1), (5, 2)),
        ):
            self.assertIs(shuts(self.forms, weights), False, weights)

    def test_plus_0(self):
        self.assertIs(shuts(self.forms, ((3, 1),)), False)
        self.assertIs(shuts(self.forms, ((4, 1), (5, 1))), False)
        self.assertIs(shuts(self.forms, ((0, 1), (1, 1), (2, 1), (5, 1))), False)
        self.assertIs(shuts(self.forms, ()), False)

    def test_no_forms(self):
        for thing in ((), ((0, 1),), None, []):
            self.assertIs(shuts([], thing), False)

    def test_numbers_left_for_an_input_or_a_sort_alone(self):
        forms = [((1, 0), (0, 0), -1), ((0, 1), (0, 0), -1), ((0, 0), (1, 0), -1), ((0, 0), (0, -1), -1)]
        for number in range(4):
            self.assertIs(shuts(forms, ((number, 1),)), False)
        self.assertIs(shuts(forms + [((0, 0), (-1, 0), 0)], ((2, 1), (4, 1))), True)

    def test_numbers_beyond_the_list(self):
        for number in (6, 7, 10 ** 39):
            self.assertIs(shuts(self.forms, ((4, 1), (number, 1))), False)
            self.assertIs(shuts(self.forms, ((number, 1),)), False)
        self.assertIs(shuts([((0,), (0,), -1)], ((0, 1),)), True)
        self.assertIs(shuts([((0,), (0,), -1)], ((1, 1),)), False)

    def test_what_are_no_weights(self):
        for thing in (
            ((4, 0),), ((4, -1),), ((-2, 1),), ((4, True),), ((True, 1), (4, 1)), ((False, 1), (4, 1)), ((4, None),),
            ((4,),), ((4, 1, 1),), ((4, 1), (4, 1)), ((4, 1), (3, 1)), (("4", 1),), ((4, "1"),), ([4, 1],), [(4, 1)],
            (4, 1), "41", None, {4: 1}, {(4, 1): 1}, 4, True, (None,), ((4, 1), None), ((4, 1), ()), [[4, 1]], {},
            [], "", ((5, -1),), ((4, (1,)),),
        ):
            self.assertIs(shuts(self.forms, thing), False, thing)

    def test_right_ones_put_otherwise_at_each_place(self):
        for path in paths_of(self.right):
            for other in (None, True, False, "", "1", [], {}, (None,), -1, [0, 1]):
                self.assertIs(shuts(self.forms, with_other(self.right, path, other)), False, (path, other))
            if isinstance(within(self.right, path), tuple):
                self.assertIs(shuts(self.forms, with_other(self.right, path, list(within(self.right, path)))), False)

    def test_odd_things(self):
        for thing in ODD_THINGS:
            self.assertIs(shuts(self.forms, thing), False, thing)
            self.assertIs(shuts([((), (0,), -1)], thing), False, thing)

    def test_where_something_holds_nothing_shuts(self):
        chance = random.Random(53)
        shut = 0
        for turn in range(3000):
            forms = [random_form(chance, 1, 1, 1) for form in range(3)]
            weights = tuple((number, chance.randint(1, 2)) for number in range(3) if chance.random() < 0.7)
            told = shuts(forms, weights)
            totals = [sum(times * forms[number][0][0] for number, times in weights)]
            totals.append(sum(times * forms[number][1][0] for number, times in weights))
            plus = sum(times * forms[number][2] for number, times in weights)
            self.assertIs(told, totals == [0, 0] and plus < 0)
            if told:
                shut += 1
                for a in range(3):
                    for b in range(3):
                        self.assertFalse(all(holds(form, (a,), (b,)) for form in forms))
        self.assertTrue(shut > 50)


class TestFacts(unittest.TestCase):
    def test_in_order(self):
        # Inputs are the sorts c and a, in that order; begin is 7 0 99.
        self.assertTrue(same_kind(facts_of(HELPED, ((1, 2, -3), (0, 0, 5))), [
            ((1, 0), (0, 0, 0), 0), ((0, 1), (0, 0, 0), 0),
            ((0, 0), (1, 0, 0), 0), ((0, 0), (0, 1, 0), 0), ((0, 0), (0, 0, 1), 0),
            ((3, -1), (1, 2, -3), 290), ((-3, 1), (-1, -2, 3), -290),
            ((-5, 0), (0, 0, 5), -495), ((5, 0), (0, 0, -5), 495),
        ]))

    def test_no_kepts(self):
        self.assertTrue(same_kind(facts_of(STILL, ()), [((), (1,), 0)]))
        self.assertTrue(same_kind(facts_of(LESSER, ()), [
            ((1, 0), (0, 0, 0), 0), ((0, 1), (0, 0, 0), 0),
            ((0, 0), (1, 0, 0), 0), ((0, 0), (0, 1, 0), 0), ((0, 0), (0, 0, 1), 0),
        ]))

    def test_no_inputs(self):
        self.assertTrue(same_kind(facts_of(STILL, ((2,),)), [((), (1,), 0), ((), (2,), -10), ((), (-2,), 10)]))

    def test_how_many(self):
        for pot in POTS:
            for many in range(9):
                kepts = tuple((k,) * len(pot[SORTS]) for k in range(many))
                self.assertEqual(len(facts_of(pot, kepts)), len(pot[INPUTS]) + len(pot[SORTS]) + 2 * many)

    def test_large_numbers(self):
        large = 10 ** 999
        facts = facts_of(MORE, ((large, 0, -large, 1),))
        self.assertEqual(facts[-2:], [
            ((large, -1), (large, 0, -large, 1), -large), ((-large, 1), (-large, 0, large, -1), large),
        ])

    def test_they_hold_on_the_way_where_the_kepts_stay(self):
        chance = random.Random(54)
        stands = 0
        for pot in [LESSER, MORE, SAME, HELPED, LARGE] + [random_pot(chance, 5, 4, 2) for turn in range(60)]:
            facts = facts_of(pot, tuple(all_kept(pot)))
            for turn in range(5):
                amounts = tuple(chance.choice((0, 1, 2, 5, 10 ** 12)) for place in pot[INPUTS])
                start = beginning(pot, amounts)
                order, end = chosen(pot, start, [chance.randrange(99) for k in range(9)], 12)
                for stand in stands_on(pot, start, order):
                    stands += 1
                    self.assertTrue(all(holds(fact, amounts, stand) for fact in facts))
        self.assertTrue(stands > 500)

    def test_two_for_a_kept_hold_just_where_its_count_is_the_beginnings(self):
        chance = random.Random(55)
        for turn in range(300):
            pot = random_pot(chance, most_sorts=3)
            kept = tuple(chance.randint(-1, 1) for sort in pot[SORTS])
            amounts = tuple(chance.randint(0, 2) for place in pot[INPUTS])
            start = beginning(pot, amounts)
            stand = tuple(max(0, count + chance.randint(-1, 1)) for count in start)
            both = facts_of(pot, (kept,))[-2:]
            difference = added_up(kept, stand) - added_up(kept, start)
            self.assertEqual([form_at(fact, amounts, stand) for fact in both], [difference, -difference])

    def test_told_lists_are_the_askers_own(self):
        told = facts_of(LESSER, ((1, 0, 1),))
        kept = list(told)
        told[0] = None
        told.append(None)
        self.assertEqual(facts_of(LESSER, ((1, 0, 1),)), kept)

    def test_nothing_is_changed(self):
        forms = list(TestShuts.forms)
        self.assertTrue(unchanged_by(shuts, forms, TestShuts.right))
        self.assertTrue(unchanged_by(shuts, forms, [[4, 1], {"a": [1]}]))
        self.assertTrue(unchanged_by(form_weighed, forms, TestShuts.right))
        self.assertTrue(unchanged_by(contrary, forms[0]))
        self.assertTrue(unchanged_by(facts_of, SAME, tuple(all_kept(SAME))))


if __name__ == "__main__":
    unittest.main()
