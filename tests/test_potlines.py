import random
import unittest

from dropsums.errors import NoPot
from dropsums.potlines import read_pot, shown_pot
from dropsums.pots import is_pot
from helper import HELPED, LARGE, LESSER, POTS, STILL, random_pot, same_kind, unchanged_by

# A pot's lines of which single ones are put otherwise: sorts a b c, rules as they are told.
HEAD = ["sorts a b c", "begin 0 10 99", "in b a", "out c"]
RULE = "rule 1 a 9 c to 2 b"
RULES_LINE = len(HEAD)


class TestShown(unittest.TestCase):
    def test_lines(self):
        self.assertEqual(shown_pot(LESSER), ["sorts a b c", "begin 0 0 0", "in a b", "out c", "rule 1 a 1 b to 1 c"])
        self.assertEqual(shown_pot(STILL), ["sorts only", "begin 5", "in", "out only"])
        self.assertEqual(
            shown_pot(HELPED),
            [
                "sorts from help done", "begin 7 0 99", "in done from", "out done",
                "rule 2 from to 1 help", "rule 1 help 1 done to 1 from 1 done", "rule 3 done to 9 help",
            ],
        )
        self.assertEqual(
            shown_pot((("a", "b"), (((0, 1), (0, 0)), ((3, 2), (3, 1))), (), (1, 20), 1)),
            ["sorts a b", "begin 1 20", "in", "out b", "rule 1 b to", "rule 3 a 2 b to 3 a 1 b"],
        )
        self.assertEqual(shown_pot(LARGE)[4].count("1 "), 8)
        self.assertTrue(shown_pot(LARGE)[4].endswith(" to"))

    def test_told_lists_are_the_askers_own(self):
        told = shown_pot(LESSER)
        self.assertIs(type(told), list)
        kept = list(told)
        told.clear()
        self.assertEqual(shown_pot(LESSER), kept)
        self.assertEqual(read_pot(kept), LESSER)


class TestRead(unittest.TestCase):
    def test_read_again(self):
        for pot in POTS:
            self.assertTrue(same_kind(read_pot(shown_pot(pot)), pot))

    def test_read_again_at_random(self):
        chance = random.Random(3)
        for turn in range(500):
            pot = random_pot(chance)
            self.assertTrue(same_kind(read_pot(shown_pot(pot)), pot))

    def test_nothing_is_changed(self):
        for lines in (shown_pot(LARGE), HEAD + ["rule 1 a to 1 a"], []):
            self.assertTrue(unchanged_by(read_pot, lines))


class TestRefused(unittest.TestCase):
    def refused(self, lines, line, word):
        with self.assertRaises(NoPot) as taken:
            read_pot(lines)
        self.assertEqual((taken.exception.line, taken.exception.word), (line, word), lines)

    def refused_at(self, line, text, word):
        """The line put otherwise, with right ones ahead, and right ones or none or wrong ones behind."""
        lines = HEAD + [RULE, RULE]
        self.refused(lines[:line] + [text] + lines[line + 1:], line, word)
        self.refused(lines[:line] + [text], line, word)
        self.refused(lines[:line] + [text, "wrong", "", " "], line, word)
        self.refused(lines[:line] + [text] * 20, line, word)

    def test_lines_that_lack(self):
        for many in range(4):
            self.refused(HEAD[:many], many, 0)
        self.assertEqual(read_pot(HEAD)[1], ())

    def test_first_words(self):
        for line, word in enumerate(["sorts", "begin", "in", "out", "rule"]):
            behind = (HEAD + [RULE])[line][len(word):]
            others = ["sorts", "begin", "in", "out", "rule", "to", "", "a", "Rule", word + "x", word + "\n", "\n" + word]
            for other in others:
                if other != word:
                    self.refused_at(line, other + behind, 0)
                    self.refused_at(line, other, 0)
            self.refused_at(line, " " + word + behind, 0)

    def test_more_rules_than_eight(self):
        self.assertEqual(len(read_pot(HEAD + [RULE] * 8)[1]), 8)
        for many in (9, 10, 30):
            self.refused(HEAD + [RULE] * many, 12, 0)
        for ninth in ("", "rule", "rule x", "sorts a", "rule 1 a to 1 a"):
            self.refused(HEAD + [RULE] * 8 + [ninth], 12, 0)

    def test_sorts(self):
        for text, word in (
            ("sorts", 1), ("sorts ", 1), ("sorts  a", 1), ("sorts a ", 2), ("sorts a  b", 2), ("sorts A", 1),
            ("sorts a a", 2), ("sorts a b a b", 3), ("sorts a1", 1), ("sorts abcdefghi", 1), ("sorts a sorts", 2),
            ("sorts a begin", 2), ("sorts in", 1), ("sorts a b out", 3), ("sorts rule", 1), ("sorts a to b", 2),
            ("sorts a\nb", 1), ("sorts a b\n", 2), ("sorts a \nb", 2), ("sorts a b c d e f g h i", 9),
            ("sorts a b c d e f g h i j", 9), ("sorts a b c d e f g h a", 9), ("sorts a b c d e f g h ", 9),
            ("sorts a-b", 1), ("sorts 1", 1), ("sorts a b c d e f g g i", 8),
        ):
            self.refused_at(0, text, word)

    def test_eight_sorts(self):
        lines = ["sorts a b c d e f g abcdefgh", "begin 0 0 0 0 0 0 0 0", "in", "out abcdefgh"]
        self.assertEqual(len(read_pot(lines)[0]), 8)

    def test_begin(self):
        for text, word in (
            ("begin", 1), ("begin 1", 2), ("begin 1 2", 3), ("begin 1 2 3 4", 4), ("begin 1 2 3 x", 4),
            ("begin 1 2 3 ", 4), ("begin  1 2 3", 1), ("begin 1  2 3", 2), ("begin ", 1), ("begin 1 ", 2),
            ("begin 100 0 0", 1), ("begin 0 100 0", 2), ("begin 0 0 100", 3), ("begin 00 0 0", 1),
            ("begin 0 01 0", 2), ("begin 0 0 099", 3), ("begin -1 0 0", 1), ("begin -0 0 0", 1), ("begin +1 0 0", 1),
            ("begin 0 a 0", 2), ("begin 0 1.0 0", 2), ("begin 0 1\n 0", 2), ("begin 0 1_0 0", 2), ("begin 0 0 1e1", 3),
            ("begin 0 0 " + "9" * 1900, 3), ("begin 0 0 " + "9" * 6000, 3), ("begin 0 0 " + "0" * 1900, 3),
            ("begin 0 a 0 0", 2), ("begin 0 0 0 0 a", 4), ("begin x", 1),
        ):
            self.refused_at(1, text, word)

    def test_in(self):
        for text, word in (
            ("in ", 1), ("in  a", 1), ("in a ", 2), ("in d", 1), ("in a d", 2), ("in a a", 2), ("in a b a", 3),
            ("in a b c a", 4), ("in a b c d", 4), ("in a b c ", 4), ("in A", 1), ("in 1", 1), ("in in", 1),
            ("in a\n", 1), ("in a\nb", 1), ("in a to", 2), ("in abcdefghi", 1), ("in d a a", 1),
        ):
            self.refused_at(2, text, word)

    def test_a_fourth_input(self):
        lines = ["sorts a b c d", "begin 0 0 0 0", "in d c b", "out a"]
        self.assertEqual(read_pot(lines)[2], (3, 2, 1))
        self.refused(lines[:2] + ["in d c b a"] + lines[3:], 2, 4)

    def test_out(self):
        for text, word in (
            ("out", 1), ("out ", 1), ("out  a", 1), ("out a ", 2), ("out a a", 2), ("out a b c", 2), ("out d", 1),
            ("out d d", 1), ("out 0", 1), ("out out", 1), ("out a\n", 1), ("out a x", 2), ("out A", 1),
        ):
            self.refused_at(3, text, word)

    def test_rule_that_lacks(self):
        for text, word in (
            ("rule", 1), ("rule 1", 2), ("rule 1 a", 3), ("rule 1 a 2", 4), ("rule 1 a 2 b", 5), ("rule to", 1),
            ("rule to 1 a", 1), ("rule to to", 1), ("rule 1 to", 2), ("rule 1 to 1 a", 2), ("rule 1 a 2 to", 4),
            ("rule 1 a to 1", 5), ("rule 1 a to 1 b 2", 7), ("rule 1 a 1 b 1 c", 7),
        ):
            self.refused_at(RULES_LINE, text, word)

    def test_rule_words(self):
        for text, word in (
            ("rule ", 1), ("rule  1 a to", 1), ("rule 1  a to", 2), ("rule 1 a  to", 3), ("rule 1 a to ", 4),
            ("rule 1 a to  1 b", 4), ("rule 1 a to 1 ", 5), ("rule 1 a to 1 b ", 6), ("rule a to", 1),
            ("rule 1 d to", 2), ("rule 1 A to", 2), ("rule 1 1 a to", 2), ("rule 1 a b to", 3), ("rule x a to", 1),
            ("rule 0 a to", 1), ("rule 10 a to", 1), ("rule 01 a to", 1), ("rule 1 a 0 b to", 3),
            ("rule 1 a to 0 b", 4), ("rule 1 a to 10 b", 4), ("rule 1 a to 02 b", 4), ("rule -1 a to", 1),
            ("rule 1 a to -1 b", 4), ("rule 1 a 1 a to", 4), ("rule 1 b 1 a to", 4), ("rule 1 a 2 c 1 b to", 6),
            ("rule 1 a to 1 b 1 b", 7), ("rule 1 a to 1 c 1 a", 7), ("rule 1 a to to", 4), ("rule 1 a to 1 to", 5),
            ("rule 1 a to 1 b to", 6), ("rule 1 a to 1 d", 5), ("rule 1 a to b", 4), ("rule 1 rule to", 2),
            ("rule 1 a\n to", 2), ("rule 1 a to\n", 3), ("rule 1 a to 1\n b", 4), ("rule 1\n1 a to", 1),
            ("rule 1 a to 1 b\n", 5), ("rule " + "1" * 1900 + " a to", 1), ("rule 1 a to " + "7" * 6000 + " b", 4),
            ("rule 1 a 1 b 1 c 1 a to", 8), ("rule 1 a 1 b 1 c x to", 7), ("rule 0 d to to", 1),
        ):
            self.refused_at(RULES_LINE, text, word)

    def test_rule_with_both_sides_alike(self):
        for text in ("rule 1 a to 1 a", "rule 9 b 2 c to 9 b 2 c", "rule 1 a 1 b 1 c to 1 a 1 b 1 c"):
            self.refused_at(RULES_LINE, text, len(text.split(" ")))

    def test_a_later_rule(self):
        self.refused(HEAD + [RULE] * 3 + ["rule 1 a to 1 a", "rule"], 7, 6)
        self.refused(HEAD + [RULE, "", RULE], 5, 0)
        self.refused(HEAD + [RULE] * 7 + ["rule 1 a"], 11, 3)

    def test_the_first_line_goes_first(self):
        wrong = ["sorts a a", "begin x", "in q q", "out", "rule"]
        words = [2, 1, 1, 1, 1]
        right = HEAD + [RULE]
        for first in range(5):
            self.refused(right[:first] + wrong[first:], first, words[first])


class TestAnyLines(unittest.TestCase):
    """Lines put otherwise at random: read, they are written again just so; refused, what is behind has no say."""

    def told(self, lines):
        try:
            return read_pot(lines)
        except NoPot as refusal:
            return [refusal.line, refusal.word]

    def put_otherwise(self, chance, lines):
        lines = list(lines)
        for turn in range(chance.randint(0, 3)):
            line = chance.randrange(len(lines))
            words = lines[line].split(" ")
            place = chance.randint(0, len(words))
            other = chance.choice(["", "to", "rule", "0", "1", "9", "10", "99", "100", "a", "b", "c", "d", "in", "\n"])
            if chance.random() < 0.4:
                words[place:place + 1] = [other]
            elif chance.random() < 0.5:
                words[place:place + 1] = []
            else:
                words.insert(place, other)
            lines[line] = " ".join(words)
        return lines

    def test_any_lines(self):
        chance = random.Random(4)
        read = 0
        for turn in range(4000):
            rules = ["rule 1 a to 1 b", "rule 2 b 1 c to", "rule 9 a 1 b to 3 a 2 c"][:chance.randint(0, 3)]
            lines = self.put_otherwise(chance, HEAD + rules)
            told = self.told(lines)
            if isinstance(told, tuple):
                read += 1
                self.assertTrue(is_pot(told))
                self.assertEqual(shown_pot(told), lines)
                continue
            line, word = told
            self.assertEqual(self.told(lines[:line + 1]), told)
            if line < len(lines):
                words = lines[line].split(" ")
                self.assertTrue(0 <= word <= len(words))
                self.assertEqual(self.told(lines[:line] + [" ".join(words[:word + 1])] + ["behind"]), told)
            else:
                self.assertEqual(word, 0)
        self.assertTrue(200 < read < 3800)


if __name__ == "__main__":
    unittest.main()
