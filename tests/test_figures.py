import random
import unittest

from dropsums.figures import is_figures, is_signed_figures, shown_whole, whole_of


class TestFigures(unittest.TestCase):
    def test_from_0_on(self):
        for word in ("0", "1", "9", "10", "99", "100", "7" * 5000):
            self.assertIs(is_figures(word), True)
            self.assertIs(is_signed_figures(word), True)

    def test_below_0(self):
        for word in ("-1", "-9", "-10", "-100", "-" + "7" * 5000):
            self.assertIs(is_figures(word), False)
            self.assertIs(is_signed_figures(word), True)

    def test_none(self):
        for word in ("", "-", "00", "01", "-0", "-01", "--1", "+1", "1.0", "1 ", " 1", "1\n", "x", "1-", "1_0", "\u0663"):
            self.assertIs(is_figures(word), False)
            self.assertIs(is_signed_figures(word), False)

    def test_written_and_read_again(self):
        chance = random.Random(61)
        for length in list(range(1, 80)) + [1000, 1001, 2000]:
            for number in (10 ** length, 10 ** length - 1, chance.randrange(10 ** length), 10 ** length + 7):
                self.assertEqual(shown_whole(number), str(number))
                self.assertEqual(shown_whole(-number), str(-number))
                self.assertEqual(whole_of(str(number)), number)
                self.assertEqual(whole_of(str(-number)), -number)
        self.assertEqual(shown_whole(0), "0")
        self.assertEqual(whole_of("0"), 0)

    def test_longer_than_python_writes(self):
        for number in (10 ** 6000, 10 ** 9000 + 1, -(10 ** 6000) + 7):
            word = shown_whole(number)
            self.assertIs(is_signed_figures(word), True)
            self.assertTrue(whole_of(word) == number)
        self.assertEqual(shown_whole(10 ** 6000), "1" + "0" * 6000)


if __name__ == "__main__":
    unittest.main()
