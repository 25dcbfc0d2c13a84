import random
import unittest

from dropsums.errors import NoLines
from dropsums.finding import paper_for
from dropsums.paperlines import read_paper, shown_paper
from dropsums.papers import is_paper
from helper import GREATER, HALF, LESSER, MORE, RECKONERS, SAME, STILL, SUM, same_kind, unchanged_by

SORTS, RULES = 0, 1

LEAST = ("least", ((1, 0), 0), ((0, 1), 0))
# Of same, the first piece has four forms, the others have three.
EQUAL = ("same", ((1, 0), 0), ((0, 1), 0))

# Every kind of tree; what shuts what isn't asked here.
MIXED = (
    ((1, 0, 1), (-12, 0, 345)),
    (7, 0, 10),
    (
        "lacks", 0, (
            ("cut", 2, 0, ("shut", ()), ("cut", 0, 99, ("shut", ((0, 1),)), ("shut", ((0, 1), (3, 20), (10, 5))))),
            ("lacks", 0, (("right", 0, ((), (), ())), ("right", 1, (((5, 6),), (), ((0, 1), (1, 1)))))),
        ),
    ),
)
MIXED_LINES = [
    "kept 1 0 1", "kept -12 0 345", "height 7 0 10", "lacks 0", "cut 2 0", "shut", "cut 0 99", "shut 0:1",
    "shut 0:1 3:20 10:5", "lacks 0", "right 0 / / /", "right 1 / 5:6 / / 0:1 1:1",
]


def random_weights(chance):
    return tuple((number, chance.choice((1, 2, 10, 10 ** 30))) for number in range(15) if chance.random() < 0.2)


def random_tree(chance, pot, pieces, depth):
    word = chance.choice(("lacks", "cut", "shut", "right")) if depth > 1 else chance.choice(("shut", "right"))
    if word == "lacks" and not pot[RULES]:
        word = "cut"
    if word == "lacks":
        rule = chance.randrange(len(pot[RULES]))
        trees = [random_tree(chance, pot, pieces, depth - 1) for taken in pot[RULES][rule][0] if taken]
        return ("lacks", rule, tuple(trees))
    if word == "cut":
        low, high = [random_tree(chance, pot, pieces, depth - 1) for side in range(2)]
        return ("cut", chance.randrange(len(pot[SORTS])), chance.choice((0, 1, 10, 10 ** 30)), low, high)
    if word == "shut":
        return ("shut", random_weights(chance))
    piece = chance.randrange(len(pieces))
    return ("right", piece, tuple(random_weights(chance) for form in range(pieces[piece])))


# How many forms the pieces of an ask have.
PIECES = {"sum": (2,), "part": (2,), "least": (3, 3), "most": (3, 3), "more": (3, 3), "same": (4, 3, 3)}


def random_paper(chance, pot, ask):
    many = len(pot[SORTS])
    kepts = tuple(
        tuple(chance.choice((0, 1, -1, 10, -(10 ** 20))) for sort in range(many)) for kept in range(chance.randint(0, 8))
    )
    heights = tuple(chance.choice((0, 1, 10, 10 ** 20)) for sort in range(many))
    return (kepts, heights, random_tree(chance, pot, PIECES[ask[0]], chance.randint(1, 6)))


class TestShown(unittest.TestCase):
    def test_lines(self):
        self.assertTrue(same_kind(shown_paper(MIXED), MIXED_LINES))
        self.assertTrue(same_kind(shown_paper(((), (0,), ("shut", ()))), ["height 0", "shut"]))
        self.assertTrue(same_kind(
            shown_paper((((1,),), (0,), ("right", 0, (((1, 1), (3, 1)), ((2, 1), (3, 1)))))),
            ["kept 1", "height 0", "right 0 / 1:1 3:1 / 2:1 3:1"],
        ))

    def test_large_numbers(self):
        large = 10 ** 999
        paper = (((large, -large, 0),), (0, large, 0), ("cut", 0, large, ("shut", ((large, large),)), ("shut", ())))
        word = "1" + "0" * 999
        lines = [f"kept {word} -{word} 0", f"height 0 {word} 0", f"cut 0 {word}", f"shut {word}:{word}", "shut"]
        self.assertEqual(shown_paper(paper), lines)
        self.assertTrue(same_kind(read_paper(LESSER, LEAST, lines), paper))

    def test_told_lists_are_the_askers_own(self):
        told = shown_paper(MIXED)
        told.clear()
        self.assertEqual(shown_paper(MIXED), MIXED_LINES)


class TestRead(unittest.TestCase):
    def test_read_again(self):
        self.assertTrue(same_kind(read_paper(LESSER, LEAST, MIXED_LINES), MIXED))
        for pot, ask in RECKONERS:
            paper = paper_for(pot, ask)
            self.assertTrue(same_kind(read_paper(pot, ask, shown_paper(paper)), paper))

    def test_read_again_at_random(self):
        chance = random.Random(101)
        for turn in range(400):
            pot, ask = chance.choice(RECKONERS)
            paper = random_paper(chance, pot, ask)
            self.assertIs(is_paper(pot, ask, paper), True)
            self.assertTrue(same_kind(read_paper(pot, ask, shown_paper(paper)), paper))

    def test_nothing_is_changed(self):
        for lines in (list(MIXED_LINES), [], ["kept 1", "x"]):
            self.assertTrue(unchanged_by(read_paper, LESSER, LEAST, lines))
        self.assertTrue(unchanged_by(shown_paper, MIXED))


class TestRefused(unittest.TestCase):
    def refused(self, lines, line, pot=LESSER, ask=LEAST):
        with self.assertRaises(NoLines) as taken:
            read_paper(pot, ask, lines)
        self.assertTrue(same_kind(taken.exception.line, line), (lines, taken.exception.line))

    def refused_at(self, line, texts):
        """Each text in the place of that line of MIXED_LINES, with right ones, wrong ones or none behind."""
        for text in texts:
            ahead = MIXED_LINES[:line]
            self.refused(ahead + [text] + MIXED_LINES[line + 1:], line)
            self.refused(ahead + [text], line)
            self.refused(ahead + [text, "wrong", ""], line)
            self.refused(ahead + [text] * 30, line)

    def test_lines_that_lack(self):
        for many in range(len(MIXED_LINES)):
            self.refused(MIXED_LINES[:many], many)
        self.refused([], 0)
        self.refused([], 0, STILL, ("sum", ((), 5)))
        for pot, ask in RECKONERS:
            lines = shown_paper(paper_for(pot, ask))
            for many in range(len(lines)):
                self.refused(lines[:many], many, pot, ask)

    def test_lines_behind_the_whole(self):
        for text in ("", " ", "shut", "kept 1 0 1", "height 1 0 0", "lacks 0", "right 0 / / /", "\n", "wrong"):
            self.refused(MIXED_LINES + [text], len(MIXED_LINES))
            self.refused(MIXED_LINES + [text, text], len(MIXED_LINES))
            self.refused(["height 1 0 0", "shut", text], 2)

    def test_first_words(self):
        wrong = ["", " ", "\n", "Kept 1 0 1", "kepts 1 0 1", "lack 0", "lacks\n 0", "cuts 2 0", "shut\n", "rights 0 / / /",
                 "sorts a b c", "heights 7 0 10", " shut", " kept 1 0 1", " height 7 0 10", "\nshut", "to", "/ 0:1"]
        for line in range(len(MIXED_LINES)):
            self.refused_at(line, wrong)

    def test_words_out_of_their_place(self):
        for line in (0, 1, 2):
            self.refused_at(line, ["lacks 0", "cut 0 0", "shut", "right 0 / / /"])
        for line in range(3, len(MIXED_LINES)):
            self.refused_at(line, ["kept 1 0 1", "height 7 0 10"])

    def test_kepts(self):
        self.refused_at(0, [
            "kept", "kept ", "kept 1", "kept 1 0", "kept 1 0 1 0", "kept 1 0 x", "kept 1 0 ", "kept  1 0", "kept 1 0 01",
            "kept 00 0 1", "kept -0 0 1", "kept 1 - 1", "kept 1 -01 1", "kept +1 0 1", "kept 1 0 1\n", "kept 1\n0 1",
            "kept 1 0 1 ", "kept 1.0 0 1", "kept 1 0 --1", "kept 1 0 1:1", "kept 1 0 /", "kept 1 0 1-",
        ])
        self.refused_at(1, ["kept 1 0", "kept x 0 1"])

    def test_more_kepts_than_eight(self):
        behind = ["height 1 0 0", "shut"]
        for many in range(9):
            paper = (((1, 0, 1),) * many, (1, 0, 0), ("shut", ()))
            self.assertTrue(same_kind(read_paper(LESSER, LEAST, ["kept 1 0 1"] * many + behind), paper))
        for many in (9, 10, 30):
            self.refused(["kept 1 0 1"] * many + behind, 8)
            self.refused(["kept 1 0 1"] * many, 8)
        self.refused(["kept 1 0 1"] * 8 + ["kept"], 8)
        self.refused(["kept 1 0 1"] * 8, 8)

    def test_heights(self):
        self.refused_at(2, [
            "height", "height ", "height 7 0", "height 7 0 10 0", "height -7 0 10", "height 7 -0 10", "height 07 0 10",
            "height 7 0 x", "height 7  10", "height  7 0 10", "height 7 0 10 ", "height 7 0 10\n", "height 7 00 10",
        ])

    def test_lacks(self):
        for line in (3, 9):
            self.refused_at(line, [
                "lacks", "lacks ", "lacks 1", "lacks -1", "lacks 00", "lacks 0 0", "lacks x", "lacks 0 ", "lacks  0",
                "lacks 0\n", "lacks -0", "lacks 10", "lacks a", "lacks 0:1", "lacks /",
            ])
        self.refused(["height 0", "lacks 0"], 1, STILL, ("sum", ((), 5)))

    def test_cuts(self):
        for line in (4, 6):
            self.refused_at(line, [
                "cut", "cut ", "cut 2", "cut 3 0", "cut -1 0", "cut 2 -1", "cut 2 00", "cut 02 0", "cut 2 0 0", "cut  2 0",
                "cut 2  0", "cut 2 0 ", "cut a 0", "cut 2 x", "cut 2 0\n", "cut 2:0", "cut 2 -0", "cut 10 0",
            ])

    def test_weights(self):
        for line in (5, 7, 8):
            self.refused_at(line, [
                "shut ", "shut 0", "shut 0:", "shut :1", "shut :", "shut 0:0", "shut 0:1 0:1", "shut 1:1 0:1", "shut 0:-1",
                "shut -1:1", "shut 00:1", "shut 0:01", "shut 0:1:1", "shut 0:1 ", "shut  0:1", "shut 0:1  1:1", "shut /",
                "shut 0:1 / 1:1", "shut x:1", "shut 0:x", "shut 0:1\n", "shut 0 :1", "shut 0: 1", "shut 0:1,1:1",
                "shut 2:1 3:1 3:2", "shut -0:1", "shut 0:+1", "shut 0:1 2:1 1:1", "shut 0:1 x", "shut\n0:1",
            ])

    def test_grounds(self):
        for line in (10, 11):
            self.refused_at(line, [
                "right", "right ", "right 0", "right 1", "right 0 /", "right 0 / /", "right 0 / / / /", "right 2 / / /",
                "right -1 / / /", "right 00 / / /", "right x / / /", "right / / /", "right 0 0:1 / / /", "right 0 / / / ",
                "right 0  / / /", "right 0 /  / /", "right 0 / / /\n", "right 0 / 0:0 / /", "right 0 / 1:1 0:1 / /",
                "right 0 / / / 0", "right 0 // /", "right 0 ///", "right 0 / 0:1/ /", "right 0 / 0:1 /1:1 /",
                "right 0 / / / 0:1 0:2", "right 0 / 00:1 / /", "right 0 / x / /", "right 0 / 0:1:1 / /", "right 0:1 / / /",
                "right 10 / / /", "right -0 / / /",
            ])

    def test_grounds_of_each_piece(self):
        head = ["height 0 0 0 0 0"]
        for piece, forms in enumerate(PIECES["same"]):
            for many in range(7):
                lines = head + [f"right {piece}" + " /" * many]
                if many == forms:
                    paper = ((), (0,) * 5, ("right", piece, ((),) * forms))
                    self.assertTrue(same_kind(read_paper(SAME, EQUAL, lines), paper))
                else:
                    self.refused(lines, 1, SAME, EQUAL)
        self.refused(head + ["right 3 / / /"], 1, SAME, EQUAL)

    def test_long_numbers(self):
        for figures in (1900, 6000):
            many = "7" * figures
            self.refused(["height 0 0 0", "lacks " + many], 1)
            self.refused(["height 0 0 0", f"cut {many} 0"], 1)
            self.refused(["height 0 0 0", f"right {many} / / /"], 1)
            self.refused(["height 0 0 0", "shut 0" + many + ":1"], 1)
            paper = read_paper(LESSER, LEAST, [f"kept -{many} 0 0", f"height {many} 0 0", f"shut {many}:{many}"])
            number = 7 * (10 ** figures - 1) // 9
            self.assertTrue(paper == (((-number, 0, 0),), (number, 0, 0), ("shut", ((number, number),))))

    def even_cuts(self, trees):
        """The lines of a tree of so many trees, an odd number."""
        if trees == 1:
            return ["shut"]
        low = (trees - 1) // 2
        low += 1 - low % 2
        return ["cut 0 0"] + self.even_cuts(low) + self.even_cuts(trees - 1 - low)

    def test_a_thousand_trees(self):
        head = ["kept 1 2", "height 1 0"]
        ask = ("part", ((1,), 0), 2)
        lines = head + ["lacks 0"] + self.even_cuts(999)
        self.assertEqual(len(lines), 1002)
        self.assertEqual(shown_paper(read_paper(HALF, ask, lines)), lines)
        self.refused(head + self.even_cuts(1001), 1002, HALF, ask)
        self.refused(head + ["lacks 0"] * 2 + self.even_cuts(999), 1002, HALF, ask)
        self.refused(head + self.even_cuts(1501), 1002, HALF, ask)
        # The one tree too many is not there: then a line lacks.
        self.refused((head + self.even_cuts(1001))[:-1], 1002, HALF, ask)
        self.refused((head + self.even_cuts(1001))[:-2], 1001, HALF, ask)

    def test_forty_within_one_another(self):
        head = ["height 1 0"]
        ask = ("part", ((1,), 0), 2)
        for depth in (1, 2, 39, 40):
            lines = head + ["cut 1 0"] * (depth - 1) + ["shut"] * depth
            self.assertEqual(shown_paper(read_paper(HALF, ask, lines)), lines)
            lines = head + ["cut 1 0", "shut"] * (depth - 1) + ["shut"]
            self.assertEqual(shown_paper(read_paper(HALF, ask, lines)), lines)
            lines = head + ["lacks 0"] * (depth - 1) + ["shut"]
            self.assertEqual(shown_paper(read_paper(HALF, ask, lines)), lines)
        for depth in (41, 42, 60):
            self.refused(head + ["cut 1 0"] * (depth - 1) + ["shut"] * depth, 41, HALF, ask)
            self.refused(head + ["cut 1 0", "shut"] * (depth - 1) + ["shut"], 80, HALF, ask)
            self.refused(head + ["lacks 0"] * (depth - 1) + ["shut"], 41, HALF, ask)
        self.refused(head + ["lacks 0"] * 40, 41, HALF, ask)
        self.refused(head + ["lacks 0"] * 39, 40, HALF, ask)

    def test_the_first_line_goes_first(self):
        lines = list(MIXED_LINES)
        for line in range(len(lines) - 1, -1, -1):
            lines[line] = "wrong"
            self.refused(lines, line)


class TestAnyLines(unittest.TestCase):
    """Lines put otherwise at random: read, they are written again just so; refused, what is ahead can all stand."""

    def told(self, pot, ask, lines):
        try:
            return read_paper(pot, ask, lines)
        except NoLines as refusal:
            return refusal.line

    def put_otherwise(self, chance, lines):
        lines = list(lines)
        for turn in range(chance.randint(0, 2)):
            line = chance.randrange(len(lines))
            if chance.random() < 0.3:
                lines[line:line + chance.randint(0, 1)] = [chance.choice(lines)][:chance.randint(0, 1)]
                continue
            words = lines[line].split(" ")
            place = chance.randint(0, len(words))
            other = chance.choice(["", "/", "0", "1", "2", "-1", "-0", "01", "0:1", "9:9", "3:0", "kept", "shut", "\n"])
            words[place:place + chance.randint(0, 1)] = [other][:chance.randint(0, 1)]
            lines[line] = " ".join(words)
        return lines

    def test_any_lines(self):
        chance = random.Random(102)
        read = 0
        asks = {LESSER: LEAST, HALF: ("part", ((1,), 0), 2), SUM: ("sum", ((2, 1), 3)), SAME: EQUAL}
        asks[MORE] = ("more", ((1, 0), 0), ((0, 1), 0))
        asks[GREATER] = ("most", ((1, 0), 0), ((0, 1), 0))
        for turn in range(3000):
            pot = chance.choice(list(asks))
            ask = asks[pot]
            lines = self.put_otherwise(chance, shown_paper(random_paper(chance, pot, ask)))
            told = self.told(pot, ask, lines)
            if isinstance(told, tuple):
                read += 1
                self.assertIs(is_paper(pot, ask, told), True)
                self.assertEqual(shown_paper(told), lines)
                continue
            self.assertTrue(0 <= told <= len(lines))
            self.assertEqual(self.told(pot, ask, lines[:told + 1]), told)
            ahead = self.told(pot, ask, lines[:told])
            self.assertTrue(isinstance(ahead, tuple) or ahead == told)
        self.assertTrue(500 < read < 2500)


if __name__ == "__main__":
    unittest.main()
