import random
import unittest

from dropsums.pots import (
    beginning, first_taker, inputs_of, is_amounts, is_name, is_pot, is_stand, sort_called,
)
from helper import (
    HALF, HELPED, LARGE, LESSER, ODD_THINGS, POTS, STILL, paths_of, random_pot, same_kind, unchanged_by, with_other,
    within,
)

SORTS, RULES, INPUTS, BEGIN, ANSWER = range(5)


class TestNames(unittest.TestCase):
    def test_names(self):
        for name in ("a", "z", "ab", "abcdefgh", "zzzzzzzz", "sort", "rules", "into", "i", "ins", "outs", "beginn"):
            self.assertIs(is_name(name), True, name)

    def test_words_of_lines_are_no_names(self):
        for word in ("sorts", "begin", "in", "out", "rule", "to"):
            self.assertIs(is_name(word), False, word)

    def test_lengths(self):
        for length in range(12):
            self.assertIs(is_name("q" * length), 1 <= length <= 8)

    def test_signs(self):
        for code in range(128):
            small = "a" <= chr(code) <= "z"
            self.assertIs(is_name(chr(code)), small)
            self.assertIs(is_name("x" + chr(code)), small)
            self.assertIs(is_name(chr(code) + "x"), small)

    def test_odd_things(self):
        for thing in ODD_THINGS:
            self.assertIs(is_name(thing), thing == "a", thing)
        for thing in (("a",), ["a"], {"a": "a"}, ("a", "b")):
            self.assertIs(is_name(thing), False)


class TestPotKind(unittest.TestCase):
    def refused(self, pot, path, other):
        self.assertIs(is_pot(with_other(pot, path, other)), False, (path, other))

    def allowed(self, pot, path, other):
        self.assertIs(is_pot(with_other(pot, path, other)), True, (path, other))

    def test_pots(self):
        for pot in POTS:
            self.assertIs(is_pot(pot), True)
        chance = random.Random(1)
        for turn in range(300):
            self.assertIs(is_pot(random_pot(chance)), True)

    def test_odd_things(self):
        for thing in ODD_THINGS:
            self.assertIs(is_pot(thing), False, thing)

    def test_odd_things_at_each_place(self):
        for pot in (LESSER, HELPED, LARGE):
            for path in paths_of(pot):
                for thing in (None, True, False, -1, 10 ** 39, "", "no name", "1", [], [1], {}, {0: 0}, (None,), ((),)):
                    self.refused(pot, path, thing)

    def test_a_list_for_each_tuple(self):
        for pot in (LESSER, HELPED, STILL, LARGE):
            for path in paths_of(pot):
                if isinstance(within(pot, path), tuple):
                    self.refused(pot, path, list(within(pot, path)))

    def test_a_thing_too_many_or_too_few(self):
        # Rules may go or come while there are at most eight, inputs may go.
        for path in paths_of(HELPED):
            part = within(HELPED, path)
            if isinstance(part, tuple) and path != (RULES,):
                for last in part[-1:]:
                    self.refused(HELPED, path, part + (last,))
                if path != (INPUTS,):
                    self.refused(HELPED, path, part[:-1])
        self.allowed(HELPED, (INPUTS,), HELPED[INPUTS][:-1])
        self.allowed(HELPED, (RULES,), HELPED[RULES] + HELPED[RULES][-1:])
        self.allowed(HELPED, (RULES,), HELPED[RULES][:-1])
        self.refused(HELPED, (), ())

    def test_counts_of_sorts(self):
        for many in range(11):
            names = tuple("abcdefghijk"[:many])
            zeros = (0,) * many
            self.assertIs(is_pot((names, (), (), zeros, 0)), 1 <= many <= 8)

    def test_names_of_sorts(self):
        for name in ("a", "sorts", "begin", "in", "out", "rule", "to", "", "A", "a b", "z9", "abcdefghi", "b\n"):
            self.refused(LESSER, (SORTS, 1), name)
        for name in ("abcdefgh", "q", "ins"):
            self.allowed(LESSER, (SORTS, 1), name)
        self.refused(LESSER, (SORTS,), "abc")

    def test_counts_of_rules(self):
        rule = ((1, 0), (0, 1))
        for many in range(11):
            self.allowed(HALF, (RULES,), (rule,) * many) if many <= 8 else self.refused(HALF, (RULES,), (rule,) * many)

    def test_numbers_of_rules(self):
        for side in (0, 1):
            for number in range(-1, 13):
                path = (RULES, 1, side, 0)
                if 0 <= number <= 9:
                    self.allowed(HELPED, path, number)
                else:
                    self.refused(HELPED, path, number)

    def test_a_rule_that_takes_nothing(self):
        self.refused(HALF, (RULES, 0), ((0, 0), (0, 1)))
        self.refused(HALF, (RULES, 0), ((0, 0), (0, 0)))
        self.allowed(HALF, (RULES, 0), ((0, 1), (0, 0)))

    def test_a_rule_with_both_sides_alike(self):
        self.refused(HALF, (RULES, 0), ((2, 1), (2, 1)))
        self.allowed(HALF, (RULES, 0), ((2, 1), (1, 2)))

    def test_inputs(self):
        sorts = ("a", "b", "c", "d", "e")
        for inputs, right in (
            ((), True), ((0,), True), ((4, 0), True), ((2, 0, 1), True), ((0, 1, 2, 3), False), ((0, 0), False),
            ((1, 2, 1), False), ((5,), False), ((-1,), False), ((0, True), False), ((False,), False), ([0], False),
            (0, False), (None, False), (("a",), False), ("", False),
        ):
            self.assertIs(is_pot((sorts, (), inputs, (0,) * 5, 0)), right, inputs)

    def test_begin(self):
        for number, right in ((-1, False), (0, True), (99, True), (100, False), (True, False), (False, False)):
            self.assertIs(is_pot(with_other(HELPED, (BEGIN, 1), number)), right, number)

    def test_answer(self):
        for number, right in (
            (-1, False), (0, True), (2, True), (3, False), (True, False), (None, False), ("a", False), ((0,), False),
        ):
            self.assertIs(is_pot(with_other(HELPED, (ANSWER,), number)), right, number)


class TestStandsAndAmounts(unittest.TestCase):
    def test_both_kinds(self):
        for told in (is_stand, is_amounts):
            for many, thing, right in (
                (0, (), True), (0, (0,), False), (1, (), False), (1, (0,), True), (3, (0, 1, 10 ** 12), True),
                (3, (0, 10 ** 39, 0), True), (3, (0, -1, 0), False), (3, (0, True, 0), False),
                (3, (False, 0, 0), False), (3, (0, 0, None), False), (3, (0, 0), False), (3, (0, 0, 0, 0), False),
                (3, [0, 0, 0], False), (1, 0, False), (1, "0", False), (1, ("0",), False), (1, ((0,),), False),
                (2, ((0, 0),), False), (1, {0: 0}, False), (0, [], False), (0, "", False), (0, None, False),
                (0, {}, False), (8, (1,) * 8, True), (8, (1,) * 9, False),
            ):
                self.assertIs(told(many, thing), right, (many, thing))

    def test_odd_things(self):
        for told in (is_stand, is_amounts):
            for thing in ODD_THINGS:
                self.assertIs(told(4, thing), False, thing)
                self.assertIs(told(1, thing), thing == (1,), thing)


class TestWhatAPotSays(unittest.TestCase):
    def test_sort_called(self):
        for pot in POTS:
            for number, name in enumerate(pot[SORTS]):
                self.assertIs(type(sort_called(pot, name)), int)
                self.assertEqual(sort_called(pot, name), number)
        for text in ("", "d", "A", "aa", "a ", " a", "a b", "sorts", "to", "0", "a\n", "x" * 2000):
            self.assertIsNone(sort_called(LESSER, text), text)

    def test_inputs_of(self):
        self.assertEqual([inputs_of(pot) for pot in POTS], [2, 1, 2, 0, 3])

    def test_first_taker(self):
        self.assertEqual([first_taker(pot) for pot in POTS], [None, None, 1, None, 0])

    def test_first_taker_takes_and_gives_again(self):
        pot = (("a", "b"), (((1, 0), (0, 1)), ((1, 1), (0, 1)), ((0, 1), (0, 0))), (0,), (0, 0), 1)
        self.assertEqual(first_taker(pot), 1)
        self.assertEqual(first_taker(with_other(pot, (ANSWER,), 0)), 0)
        self.assertEqual(first_taker(with_other(pot, (RULES,), pot[RULES][:1])), None)

    def test_beginning(self):
        self.assertTrue(same_kind(beginning(LESSER, (3, 4)), (3, 4, 0)))
        self.assertTrue(same_kind(beginning(HELPED, (5, 6)), (13, 0, 104)))
        self.assertTrue(same_kind(beginning(STILL, ()), (5,)))
        self.assertTrue(same_kind(beginning(LARGE, (0, 0, 0)), (99,) * 8))
        large = 10 ** 12
        self.assertTrue(
            same_kind(beginning(LARGE, (large, 1, 2)), (100, 99, 99, 101, 99, 99, 99, large + 99))
        )

    def test_beginning_of_any_pot(self):
        chance = random.Random(2)
        for turn in range(200):
            pot = random_pot(chance)
            amounts = tuple(chance.choice((0, 1, 10 ** 12)) for sort in pot[INPUTS])
            stand = beginning(pot, amounts)
            self.assertTrue(is_stand(len(pot[SORTS]), stand))
            for sort, count in enumerate(stand):
                added = amounts[pot[INPUTS].index(sort)] if sort in pot[INPUTS] else 0
                self.assertEqual(count, pot[BEGIN][sort] + added)

    def test_nothing_is_changed(self):
        thing = [["a"], {"b": [1]}, [0, 0]]
        for call in (is_name, is_pot, lambda thing: is_stand(3, thing), lambda thing: is_amounts(3, thing)):
            self.assertTrue(unchanged_by(call, thing))
        for pot in POTS:
            self.assertTrue(unchanged_by(beginning, pot, (1,) * len(pot[INPUTS])))


if __name__ == "__main__":
    unittest.main()
