import random
import unittest
from fractions import Fraction
from math import floor

from dropsums.asks import asked, is_ask, pieces_of, read_ask, shown_ask
from dropsums.errors import NoAsk
from helper import (
    LARGE, ODD_THINGS, SAME, STILL, paths_of, random_ask, same_kind, unchanged_by, with_other, within,
)

WORDS = ("sum", "part", "least", "most", "more", "same")
LINE = ((3, -99), 99)
OTHER = ((0, 12), -7)

ASKS = (
    ("sum", LINE), ("part", LINE, 2), ("part", LINE, 9), ("least", LINE, OTHER), ("most", LINE, OTHER),
    ("more", LINE, OTHER), ("same", LINE, OTHER), ("same", LINE, LINE),
)


class TestKind(unittest.TestCase):
    def test_asks(self):
        for ask in ASKS:
            self.assertIs(is_ask(2, ask), True, ask)
        chance = random.Random(41)
        for turn in range(200):
            many = chance.randint(0, 3)
            self.assertIs(is_ask(many, random_ask(chance, many)), True)

    def test_odd_things(self):
        for thing in ODD_THINGS:
            for many in range(4):
                self.assertIs(is_ask(many, thing), False, thing)

    def test_odd_things_at_each_place(self):
        for ask in ASKS:
            for path in paths_of(ask):
                for thing in (None, True, False, "", "word", "1", [], [1], {}, {0: 0}, (), (None,), ((),), 100, -100):
                    self.assertIs(is_ask(2, with_other(ask, path, thing)), False, (path, thing))

    def test_a_list_for_each_tuple(self):
        for ask in ASKS:
            for path in paths_of(ask):
                if isinstance(within(ask, path), tuple):
                    self.assertIs(is_ask(2, with_other(ask, path, list(within(ask, path)))), False)

    def test_a_thing_too_many_or_too_few(self):
        for ask in ASKS:
            for path in paths_of(ask):
                part = within(ask, path)
                if isinstance(part, tuple):
                    for other in (part[:-1], part[1:], part + part[-1:], part[:1] + part):
                        self.assertIs(is_ask(2, with_other(ask, path, other)), False, (path, other))

    def test_numbers_at_their_bounds(self):
        for ask in ASKS:
            for path in paths_of(ask):
                if isinstance(within(ask, path), int) and path != (2,):
                    for number in (-100, -99, -1, 0, 1, 99, 100, 10 ** 39, -(10 ** 39)):
                        right = -99 <= number <= 99
                        self.assertIs(is_ask(2, with_other(ask, path, number)), right, (path, number))

    def test_m(self):
        for m, right in (
            (-2, False), (0, False), (1, False), (2, True), (5, True), (9, True), (10, False), (99, False),
            (True, False), ("2", False), ((2,), False), (None, False), (LINE, False), (10 ** 39, False),
        ):
            self.assertIs(is_ask(2, ("part", LINE, m)), right, m)

    def test_words(self):
        for word in ("", "Sum", "sums", "su", "half", "min", "sum ", "part\n", None, 0, ("sum",), ["sum"], {"sum": 1}):
            self.assertIs(is_ask(2, (word, LINE)), False)
            self.assertIs(is_ask(2, (word, LINE, 2)), False)
            self.assertIs(is_ask(2, (word, LINE, OTHER)), False)

    def test_a_word_with_what_belongs_to_another(self):
        for word in WORDS:
            self.assertIs(is_ask(2, (word, LINE)), word == "sum")
            self.assertIs(is_ask(2, (word, LINE, 3)), word == "part")
            self.assertIs(is_ask(2, (word, LINE, OTHER)), word not in ("sum", "part"))
            self.assertIs(is_ask(2, (word, LINE, OTHER, OTHER)), False)
            self.assertIs(is_ask(2, (word, LINE, 3, 3)), False)
            self.assertIs(is_ask(2, (word,)), False)

    def test_counts_of_inputs(self):
        for many in range(5):
            for other in range(5):
                line = ((1,) * other, 0)
                right = ((1,) * many, 0)
                for ask in (("sum", line), ("part", line, 2), ("least", line, line), ("same", line, line)):
                    self.assertIs(is_ask(many, ask), many == other)
                for word in WORDS[2:]:
                    self.assertIs(is_ask(many, (word, right, line)), many == other)
                    self.assertIs(is_ask(many, (word, line, right)), many == other)


class TestAsked(unittest.TestCase):
    def told(self, ask, amounts, number):
        self.assertTrue(same_kind(asked(ask, amounts), number), (ask, amounts, number))

    def test_sum(self):
        self.told(("sum", ((2, -3), 5)), (0, 0), 5)
        self.told(("sum", ((2, -3), 5)), (4, 1), 10)
        self.told(("sum", ((2, -3), 5)), (0, 2), -1)
        self.told(("sum", ((), 7)), (), 7)
        self.told(("sum", ((99, 99, -99), 0)), (10 ** 12, 10 ** 12, 1), 198 * 10 ** 12 - 99)

    def test_part(self):
        for number in range(-20, 21):
            for m in range(2, 10):
                self.told(("part", ((), number), m), (), floor(Fraction(number, m)))
        self.told(("part", ((1,), 0), 2), (7,), 3)
        self.told(("part", ((-1,), 0), 2), (7,), -4)
        self.told(("part", ((-1,), 0), 2), (8,), -4)
        self.told(("part", ((1,), -1), 9), (0,), -1)
        self.told(("part", ((1,), 0), 3), (10 ** 12,), 333333333333)
        self.told(("part", ((-1,), 0), 3), (10 ** 12,), -333333333334)

    def test_two_lines(self):
        one, other = ((1, 0), 0), ((0, 1), 1)
        for a in range(5):
            for b in range(5):
                self.told(("least", one, other), (a, b), min(a, b + 1))
                self.told(("most", one, other), (a, b), max(a, b + 1))
                self.told(("more", one, other), (a, b), int(a > b + 1))
                self.told(("same", one, other), (a, b), int(a == b + 1))

    def test_two_lines_below_0(self):
        one, other = ((-1,), 0), ((1,), -6)
        for a in (0, 2, 3, 4, 10 ** 12):
            self.told(("least", one, other), (a,), min(-a, a - 6))
            self.told(("most", one, other), (a,), max(-a, a - 6))
            self.told(("more", one, other), (a,), int(-a > a - 6))
            self.told(("same", one, other), (a,), int(a == 3))

    def test_large_amounts_that_differ_by_one(self):
        one, other = ((1, 0), 0), ((0, 1), 0)
        large = 10 ** 12
        for a, b in ((large, large), (large, large - 1), (large - 1, large)):
            self.told(("more", one, other), (a, b), int(a > b))
            self.told(("same", one, other), (a, b), int(a == b))
            self.told(("least", one, other), (a, b), min(a, b))
            self.told(("most", one, other), (a, b), max(a, b))


class TestShown(unittest.TestCase):
    def test_words(self):
        for ask, text in (
            (("sum", ((), 0)), "sum 0"), (("sum", ((1, -2, 3), -99)), "sum 1 -2 3 -99"),
            (("part", ((10,), 0), 9), "part 10 0 9"), (("least", ((1, 0), 0), ((0, 1), 0)), "least 1 0 0 / 0 1 0"),
            (("most", ((), -5), ((), 5)), "most -5 / 5"), (("more", ((1,), 2), ((3,), 4)), "more 1 2 / 3 4"),
            (("same", ((99,), -1), ((-99,), 1)), "same 99 -1 / -99 1"),
        ):
            self.assertTrue(same_kind(shown_ask(ask), text))

    def test_read_again(self):
        for many in range(4):
            lines = [((low,) * many, high) for low in (-99, -1, 0, 1, 99) for high in (-99, 0, 10)]
            for line in lines:
                asks = [("sum", line), ("part", line, 2), ("part", line, 9)]
                asks.extend((word, line, other) for word in WORDS[2:] for other in (line, lines[0], lines[-1]))
                for ask in asks:
                    self.assertTrue(same_kind(read_ask(many, shown_ask(ask)), ask))

    def test_read_again_at_random(self):
        chance = random.Random(42)
        for turn in range(500):
            many = chance.randint(0, 3)
            ask = random_ask(chance, many)
            self.assertTrue(same_kind(read_ask(many, shown_ask(ask)), ask))


class TestRefused(unittest.TestCase):
    def refused(self, many, text, word):
        with self.assertRaises(NoAsk) as taken:
            read_ask(many, text)
        self.assertTrue(same_kind(taken.exception.word, word), (text, taken.exception.word))

    def test_first_words(self):
        for word in ("", "Sum", "sums", "half", "0", "1", "/", "sum\n", "\nsum", "-", "su", "least/", "sum/"):
            self.refused(1, word, 0)
            self.refused(1, word + " 1 2", 0)
        for word in WORDS:
            self.refused(1, " " + word + " 1 2", 0)
            self.refused(1, "x", 0)

    def test_words_that_lack(self):
        for text, word in (
            ("sum", 1), ("sum 1", 2), ("sum 1 2", 3), ("part", 1), ("part 1 2", 3), ("part 1 2 3", 4), ("least", 1),
            ("least 1 2 3", 4), ("most 1 2 3 /", 5), ("more 1 2 3 / 1", 6), ("same 1 2 3 / 1 2", 7),
        ):
            self.refused(2, text, word)

    def test_words_too_many(self):
        for text, word in (
            ("sum 1 2 3 4", 4), ("sum 1 2 3 /", 4), ("sum 1 2 3 x y", 4), ("part 1 2 3 4 5", 5), ("part 1 2 3 4 /", 5),
            ("least 1 2 3 / 1 2 3 4", 8), ("same 1 2 3 / 1 2 3 /", 8), ("more 1 2 3 / 1 2 3 100", 8),
        ):
            self.refused(2, text, word)

    def test_numbers(self):
        wrong = (
            "100", "-100", "x", "", "-", "00", "01", "-01", "-0", "+1", "1.0", "--1", "1-", "1\n", "\n1", "1_0", "0x1",
            "1e1", "9" * 1900, "-" + "9" * 1900, "9" * 6000, "0" * 1900, "sum", "/", "- 1", "099", "-099", "1/",
        )
        for ask in ASKS:
            words = shown_ask(ask).split(" ")
            for place in range(1, len(words)):
                if words[place] != "/":
                    for other in wrong:
                        text = " ".join(words[:place] + [other] + words[place + 1:])
                        self.refused(2, text, place)
                        self.refused(2, " ".join(words[:place] + [other]), place)

    def test_m(self):
        for m in ("0", "1", "-2", "10", "02", "99", "x", "/", "", "2\n", "9" * 5000):
            self.refused(1, "part 1 0 " + m, 3)
            self.refused(1, "part 1 0 " + m + " 2", 3)
        for m in range(2, 10):
            self.assertEqual(read_ask(1, f"part 1 0 {m}"), ("part", ((1,), 0), m))

    def test_the_slash(self):
        for text, word in (
            ("least 1 / 0 / 0 1 0", 2), ("least / 1 0 0 0 1 0", 1), ("least 1 0 / 0 1 0", 3),
            ("least 1 0 0 0 / 1 0", 4), ("least 1 0 0 0 1 0", 4), ("least 1 0 0 // 0 1 0", 4),
            ("least 1 0 0 / / 1 0", 5), ("least 1 0 0 / 0 / 0", 6), ("least 1 0 0/ 0 1 0", 3),
            ("least 1 0 0 /\n 0 1 0", 4), ("least 1 0 0 /0 1 0", 4), ("least 1 0 0 x 0 1 0", 4),
        ):
            self.refused(2, text, word)

    def test_blanks(self):
        for text, word in (
            ("sum  1 0", 1), ("sum 1  0", 2), ("sum 1 0 ", 3), (" sum 1 0", 0), ("", 0), (" ", 0), ("  ", 0),
            ("sum ", 1), ("sum 1 ", 2), ("least 1 0  / 1 0", 3), ("least 1 0 /  1 0", 4), ("least 1 0 / 1 0 ", 6),
        ):
            self.refused(1, text, word)

    def test_line_ends(self):
        for text, word in (
            ("\n", 0), ("sum\n1 0", 0), ("sum 1\n0", 1), ("sum 1 0\n", 2), ("sum 1 \n", 2), ("sum 1 0 \n", 3),
            ("sum 1\n 0", 1), ("least 1 0 / 1 0\n", 5),
        ):
            self.refused(1, text, word)

    def test_counts_of_inputs(self):
        self.refused(0, "sum 1 2", 2)
        self.refused(2, "sum 1 2", 3)
        self.refused(3, "least 1 0 0 / 0 1 0", 4)
        self.refused(1, "least 1 0 0 / 0 1 0", 3)

    def test_the_first_word_goes_first(self):
        self.refused(2, "sum x y z w", 1)
        self.refused(2, "sum 1 y", 2)
        self.refused(2, "part 1 2 3 1 x", 4)

    def test_any_words(self):
        chance = random.Random(43)
        read = 0
        for turn in range(4000):
            many = chance.randint(0, 3)
            words = shown_ask(random_ask(chance, many, 3)).split(" ")
            for change in range(chance.randint(0, 2)):
                place = chance.randint(0, len(words))
                other = chance.choice(["", "/", "0", "-0", "1", "2", "9", "10", "99", "100", "-99", "-100", "sum", "\n"])
                words[place:place + chance.randint(0, 1)] = [other][:chance.randint(0, 1)]
            text = " ".join(words)
            try:
                ask = read_ask(many, text)
            except NoAsk as refusal:
                words = text.split(" ")
                self.assertTrue(0 <= refusal.word <= len(words))
                self.refused(many, " ".join(words[:refusal.word + 1]), refusal.word)
                self.refused(many, " ".join(words[:refusal.word + 1] + ["behind"]), refusal.word)
                if refusal.word > 0:
                    self.lacks_or_is_whole(many, words[:refusal.word])
            else:
                read += 1
                self.assertIs(is_ask(many, ask), True)
                self.assertEqual(shown_ask(ask), text)
        self.assertTrue(500 < read < 3500)

    def lacks_or_is_whole(self, many, words):
        """What stands ahead of a refused word can all stand there."""
        try:
            read_ask(many, " ".join(words))
        except NoAsk as refusal:
            self.assertEqual(refusal.word, len(words))


class TestPieces(unittest.TestCase):
    # Of the inputs b and a, in that order, with c the answer, among four sorts.
    pot = (("a", "b", "c", "d"), (), (1, 0), (0, 0, 0, 0), 2)
    one = ((2, -3), 5)
    other = ((7, 1), -4)

    def told(self, ask, pieces):
        self.assertTrue(same_kind(pieces_of(self.pot, ask), pieces), ask)

    def y(self, times):
        return (0, 0, times, 0)

    def test_sum(self):
        self.told(("sum", self.one), (
            (((-2, 3), self.y(1), -5), ((2, -3), self.y(-1), 5)),
        ))

    def test_part(self):
        self.told(("part", self.one, 4), (
            (((2, -3), self.y(-4), 5), ((-2, 3), self.y(4), -2)),
        ))

    def test_least(self):
        self.told(("least", self.one, self.other), (
            (((-2, 3), self.y(1), -5), ((2, -3), self.y(-1), 5), ((5, 4), self.y(0), -9)),
            (((-7, -1), self.y(1), 4), ((7, 1), self.y(-1), -4), ((-5, -4), self.y(0), 9)),
        ))

    def test_most(self):
        self.told(("most", self.one, self.other), (
            (((-2, 3), self.y(1), -5), ((2, -3), self.y(-1), 5), ((-5, -4), self.y(0), 9)),
            (((-7, -1), self.y(1), 4), ((7, 1), self.y(-1), -4), ((5, 4), self.y(0), -9)),
        ))

    def test_more(self):
        self.told(("more", self.one, self.other), (
            (((0, 0), self.y(1), -1), ((0, 0), self.y(-1), 1), ((-5, -4), self.y(0), 8)),
            (((0, 0), self.y(1), 0), ((0, 0), self.y(-1), 0), ((5, 4), self.y(0), -9)),
        ))

    def test_same(self):
        self.told(("same", self.one, self.other), (
            (
                ((0, 0), self.y(1), -1), ((0, 0), self.y(-1), 1),
                ((-5, -4), self.y(0), 9), ((5, 4), self.y(0), -9),
            ),
            (((0, 0), self.y(1), 0), ((0, 0), self.y(-1), 0), ((-5, -4), self.y(0), 8)),
            (((0, 0), self.y(1), 0), ((0, 0), self.y(-1), 0), ((5, 4), self.y(0), -10)),
        ))

    def test_no_inputs(self):
        self.assertTrue(same_kind(pieces_of(STILL, ("sum", ((), 5))), ((((), (1,), -5), ((), (-1,), 5)),)))

    def test_all_forms_of_some_piece_hold_just_where_the_answer_is_right(self):
        chance = random.Random(44)
        for turn in range(150):
            pot = chance.choice((self.pot, SAME, LARGE))
            many = len(pot[2])
            ask = random_ask(chance, many, 2)
            for try_number in range(20):
                amounts = tuple(chance.randint(0, 4) for place in range(many))
                stand = tuple(chance.randint(0, 6) for sort in pot[0])
                stand = stand[:pot[4]] + (chance.choice((0, 1, max(0, asked(ask, amounts)))),) + stand[pot[4] + 1:]
                right = any(
                    all(
                        sum(a * b for a, b in zip(by, amounts)) + sum(a * b for a, b in zip(sorts, stand)) + plus >= 0
                        for by, sorts, plus in piece
                    )
                    for piece in pieces_of(pot, ask)
                )
                self.assertIs(right, stand[pot[4]] == asked(ask, amounts))

    def test_nothing_is_changed(self):
        chance = random.Random(45)
        thing = ["sum", [[1], 2]]
        self.assertTrue(unchanged_by(is_ask, 1, thing))
        for turn in range(20):
            ask = random_ask(chance, 2)
            self.assertTrue(unchanged_by(pieces_of, self.pot, ask))
            self.assertTrue(unchanged_by(asked, ask, (1, 2)))
            self.assertTrue(unchanged_by(shown_ask, ask))


if __name__ == "__main__":
    unittest.main()
