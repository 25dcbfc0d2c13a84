import random
import unittest

from dropsums.asks import shown_ask
from dropsums.checker import lets_paper
from dropsums.desk import Desk
from dropsums.errors import DropError, NoAsk, NoJoin, NoLines, NoPot, NoRow, NoStep
from dropsums.falling import first_not_lowered, is_round
from dropsums.finding import paper_for
from dropsums.judging import judged
from dropsums.paperlines import read_paper, shown_paper
from dropsums.potlines import shown_pot
from dropsums.staying import all_kept
from dropsums.together import put_together
from helper import (
    BACK, GREATER, GROWS, HALF, HELPED, LESSER, LOST, MORE, OWN, POTS, RECKONERS, SAME, STILL, SUM, WIDE, begun, leads,
    random_ask, rank_of, sought_pot, with_other,
)

SORTS, RULES, INPUTS, BEGIN, ANSWER = range(5)

NAMED = {
    "less": LESSER, "half": HALF, "still": STILL, "sum": SUM, "great": GREATER, "more": MORE, "same": SAME, "back": BACK,
    "grows": GROWS, "lost": LOST, "own": OWN, "wide": WIDE, "helped": HELPED,
}
ASKS = {
    "least": "2 least 1 0 0 / 0 1 0", "half": "1 part 1 0 2", "five": "0 sum 5", "more": "2 more 1 0 0 / 0 1 0",
    "one": "1 sum 1 0", "two": "2 sum 2 1 3", "three": "3 sum 1 1 1 0", "none": "1 sum 0 5", "next": "1 sum 1 1",
    "same": "2 same 1 0 0 / 0 1 0", "most": "2 most 1 0 0 / 0 1 0",
}


def pot_row(name, pot):
    return "\n".join([f"pot {name}"] + shown_pot(pot))


def laid_desk():
    desk = Desk()
    for name, pot in NAMED.items():
        assert desk.say(pot_row(name, pot)) == "ok"
    for name, words in ASKS.items():
        assert desk.say(f"ask {name} {words}") == "ok"
    return desk


HALF_LINES = shown_paper(paper_for(HALF, ("part", ((1,), 0), 2)))
CHECK_HALF = "\n".join(["check half half"] + HALF_LINES)

# Rows that hang on all that a desk keeps.
PROBES = (
    [f"begin {name} " + " ".join("7" for place in pot[INPUTS]) if pot[INPUTS] else f"begin {name}"
     for name, pot in NAMED.items()]
    + [f"{word} {name}" for name in NAMED for word in ("keeps", "falls")]
    + ["judge less least", "judge half half", "judge still five", "judge more more", "paper sum two", CHECK_HALF]
)


def answers(desk):
    return [desk.say(row) for row in PROBES]


class Told(unittest.TestCase):
    def refused(self, desk, row, kind, *fields):
        with self.assertRaises(DropError) as taken:
            desk.say(row)
        refusal = taken.exception
        self.assertIs(type(refusal), kind, row)
        names = {NoPot: ("line", "word"), NoAsk: ("word",), NoStep: ("place",), NoLines: ("line",), NoJoin: ("word", "at")}
        if kind is NoRow:
            self.assertEqual(refusal.text, row)
        else:
            self.assertEqual(tuple(getattr(refusal, name) for name in names[kind]), fields, row)

    def said(self, desk, row, answer):
        told = desk.say(row)
        self.assertIs(type(told), str)
        self.assertEqual(told, answer, row)


class TestRows(Told):
    def setUp(self):
        self.desk = laid_desk()

    def test_begin(self):
        for row, answer in (
            ("begin less 3 5", "3 5 0"), ("begin less 0 0", "0 0 0"), ("begin still", "5"), ("begin half 7", "7 0"),
            ("begin sum 1 2", "1 2 3"), ("begin more 4 5", "1 0 4 5"), ("begin helped 1 2", "9 0 100"),
            ("begin half 9999999999999", "9999999999999 0"), ("begin less 1000000000000 0", "1000000000000 0 0"),
            ("begin wide", "20 0 19 0"),
        ):
            self.said(self.desk, row, answer)

    def test_walk(self):
        for row, answer in (
            ("walk less 3 5", "3 5 0"), ("walk less 3 5 0", "2 4 1"), ("walk less 3 5 0 0 0", "0 2 3"),
            ("walk still", "5"), ("walk half 7 0 0 0", "1 3"), ("walk lost 1 1 2 3 2", "0 0 1 0"),
            ("walk more 2 1 0 1 0", "0 1 0 0"), ("walk grows 0 0 0", "1 3"), ("walk sum 1 2 1 0 1", "0 0 7"),
            ("walk half 9999999999999 0", "9999999999997 1"),
        ):
            self.said(self.desk, row, answer)
        self.said(self.desk, "walk half 4000" + " 0" * 2000, "0 2000")

    def test_orders_that_can_not_be_walked(self):
        for row, place in (
            ("walk less 3 5 1", 0), ("walk less 3 5 0 1", 1), ("walk less 0 5 0", 0), ("walk less 1 5 0 0", 1),
            ("walk still 0", 0), ("walk still 5 5", 0), ("walk half 7 0 0 0 0", 3), ("walk half 7 0 9999999999999", 1),
            ("walk lost 1 1 3", 1), ("walk wide 2", 0),
        ):
            self.refused(self.desk, row, NoStep, place)

    def test_ends(self):
        for row, answer in (
            ("ends less 3 5", "3"), ("ends less 0 0", "0"), ("ends still", "5"), ("ends half 399", "199"),
            ("ends back 0", "5"), ("ends back 1", "none"), ("ends lost 0", "0"), ("ends lost 1", "1"),
            ("ends more 3 2", "1"), ("ends more 2 2", "0"), ("ends grows", "many"), ("ends wide", "many"),
            ("ends half 798", "399"), ("ends half 799", "399"), ("ends half 800", "many"), ("ends half 801", "many"),
            ("ends half 9999999999999", "many"),
        ):
            self.said(self.desk, row, answer)
        # A drop of a becomes a b or a c: several ends, some with answers alike.
        fork = (("a", "b", "c"), (((1, 0, 0), (0, 1, 0)), ((1, 0, 0), (0, 0, 1)), ((0, 3, 0), (0, 0, 9))), (0,), (0, 0, 0), 1)
        self.said(self.desk, pot_row("fork", fork), "ok")
        for amount, answer in ((0, "0"), (1, "0 1"), (2, "0 1 2"), (3, "0 1 2"), (9, "0 1 2")):
            self.said(self.desk, f"ends fork {amount}", answer)
        self.said(self.desk, pot_row("fork", fork[:ANSWER] + (2,)), "ok")
        self.said(self.desk, "ends fork 3", "1 2 3 9")
        self.said(self.desk, "ends fork 12", "10 11 12 16 17 18 22 23 24 28 29 30 36")

    def test_ends_of_any_pot(self):
        chance = random.Random(161)
        words = []
        for turn in range(200):
            pot = sought_pot(chance)
            if turn % 2:
                # All that is done can be undone: most of these never end.
                pot = with_other(pot, (RULES,), pot[RULES] + tuple(rule[::-1] for rule in pot[RULES] if any(rule[1])))
            self.said(self.desk, pot_row("any", pot), "ok")
            amounts = tuple(chance.randint(0, 4) for place in pot[INPUTS])
            stands, left = {begun(pot, amounts)}, [begun(pot, amounts)]
            while left and len(stands) <= 400:
                for rule, led in leads(pot, left.pop()):
                    if led not in stands:
                        stands.add(led)
                        left.append(led)
            ends = sorted({stand[pot[ANSWER]] for stand in stands if not leads(pot, stand)})
            answer = "many" if len(stands) > 400 else " ".join(map(str, ends)) or "none"
            self.said(self.desk, " ".join(["ends any"] + [str(amount) for amount in amounts]), answer)
            words.append(answer)
        self.assertTrue(words.count("many") > 5 and words.count("none") > 5, words)

    def test_keeps(self):
        for name, pot in NAMED.items():
            told = self.desk.say(f"keeps {name}")
            kepts = [] if told == "none" else [tuple(map(int, part.split(" "))) for part in told.split(" , ")]
            self.assertEqual(kepts, all_kept(pot))
            for kept in kepts:
                for takes, gives in pot[RULES]:
                    self.assertEqual(*[sum(k * c for k, c in zip(kept, side, strict=True)) for side in (takes, gives)])
            changes = [[b - a for a, b in zip(*rule)] for rule in pot[RULES]]
            self.assertEqual(len(kepts), len(pot[SORTS]) - rank_of(changes))
        self.said(self.desk, "keeps still", "1")
        self.said(self.desk, "keeps grows", "1 0")
        # Nothing stays where a drop vanishes.
        self.said(self.desk, pot_row("gone", (("a",), (((1,), (0,)),), (), (3,), 0)), "ok")
        self.said(self.desk, "keeps gone", "none")

    def test_falls(self):
        rounds = []
        for name, pot in NAMED.items():
            word, *numbers = self.desk.say(f"falls {name}").split(" ")
            numbers = tuple(map(int, numbers))
            if word == "falls":
                self.assertEqual(len(numbers), len(pot[SORTS]))
                self.assertTrue(min(numbers) >= 0)
                self.assertIsNone(first_not_lowered(pot, numbers))
            else:
                self.assertEqual((word, len(numbers)), ("round", len(pot[RULES])))
                self.assertTrue(is_round(pot, numbers))
                rounds.append(name)
        self.assertEqual(rounds, ["back", "grows", "lost"])
        self.said(self.desk, "falls back", "round 1 1")
        self.said(self.desk, "falls grows", "round 1")

    def test_judge(self):
        for pot, ask, answer in (
            ("less", "least", "paper"), ("half", "half", "paper"), ("still", "five", "paper"), ("more", "more", "paper"),
            ("sum", "two", "paper"), ("same", "same", "paper"), ("great", "most", "paper"), ("half", "one", "wrong"),
            ("less", "most", "wrong"), ("back", "none", "round"), ("lost", "one", "never"), ("back", "next", "wrong"),
            ("own", "next", "tree"), ("wide", "five", "tree"), ("grows", "five", "round"), ("own", "one", "wrong"),
        ):
            self.said(self.desk, f"judge {pot} {ask}", answer)
            self.said(self.desk, f"judge {pot} {ask}", answer)

    def test_judge_any_pot(self):
        chance = random.Random(162)
        words = []
        for turn in range(150):
            pot = sought_pot(chance)
            many = len(pot[INPUTS])
            ask = random_ask(chance, many, 1)
            self.said(self.desk, pot_row("any", pot), "ok")
            self.said(self.desk, f"ask any {many} " + shown_ask(ask), "ok")
            told = judged(pot, ask)
            answer = {"paper": "paper", "fault": told[1][0], "open": told[1]}[told[0]]
            self.said(self.desk, "judge any any", answer)
            words.append(answer)
            paper = paper_for(pot, ask)
            self.said(self.desk, "paper any any", "none" if paper is None else "\n".join(shown_paper(paper)))
        for word in ("paper", "wrong", "round"):
            self.assertTrue(words.count(word) > 2, words)

    def test_paper_and_check(self):
        names = (
            ("sum", "two"), ("half", "half"), ("less", "least"), ("great", "most"), ("more", "more"), ("same", "same"),
            ("still", "five"),
        )
        for (name, ask_name), (pot, ask) in zip(names, RECKONERS, strict=True):
            told = self.desk.say(f"paper {name} {ask_name}")
            paper = read_paper(pot, ask, told.split("\n"))
            self.assertIs(lets_paper(pot, ask, paper), True)
            self.said(self.desk, f"check {name} {ask_name}\n" + told, "ok")
        for row in ("paper half one", "paper back none", "paper own next", "paper less most", "paper grows five"):
            self.said(self.desk, row, "none")

    def test_check(self):
        head = "check half half\n"
        right = "lacks 0\nright 0 / 1:1 4:1 6:1 / 3:1 5:1 6:1"
        for lines, answer in (
            ("kept 1 2\nheight 1 0\n" + right, "ok"), ("kept 1 2\nheight 7 0\n" + right, "ok"),
            ("kept 1 1\nheight 1 0\n" + right, "kept 0"), ("kept 1 2\nkept 1 1\nheight 1 0\n" + right, "kept 1"),
            ("kept 1 2\nheight 0 0\n" + right, "height 0"), ("kept 2 4\nheight 1 0\n" + right, "leaf 0"),
            ("kept 1 2\nheight 1 0\nlacks 0\nshut 0:1", "leaf 0"), ("kept 1 2\nheight 1 0\nshut", "leaf 0"),
            ("height 1 0\n" + right, "leaf 0"), ("kept -1 -2\nheight 1 0\n" + right, "leaf 0"),
            ("kept 1 2\nheight 1 0\nlacks 0\ncut 0 5\nright 0 / 1:1 4:1 7:1 / 3:1 5:1 7:1\nshut 5:1 6:1", "ok"),
            ("kept 1 2\nheight 1 0\nlacks 0\ncut 0 5\nright 0 / 1:1 4:1 7:1 / 3:1 5:1 7:1\nshut 5:1 7:1", "leaf 1"),
        ):
            self.said(self.desk, head + lines, answer)

    def test_lines_that_write_no_paper(self):
        right = "lacks 0\nright 0 / 1:1 4:1 6:1 / 3:1 5:1 6:1"
        for lines, line in (
            ("", 0), ("height", 0), ("kept 1 2", 1), ("kept 1 2\nheight 1 0", 2), ("kept 1 2\nheight 1 0\nlacks 0", 3),
            ("kept 1\nheight 1 0\n" + right, 0), ("kept 1 2\nheight 1 -1\n" + right, 1),
            ("kept 1 2\nheight 1 0\nlacks 1\nshut", 2), ("kept 1 2\nheight 1 0\n" + right + "\nshut", 4),
            ("kept 1 2\nheight 1 0\n" + right + "\n", 4), ("\nkept 1 2\nheight 1 0\n" + right, 0),
            ("kept 1 2\nheight 1 0\n\n" + right, 2), ("kept 1 2 \nheight 1 0\n" + right, 0),
        ):
            self.refused(self.desk, "check half half\n" + lines, NoLines, line)
        # Read first: a kept that doesn't stay goes behind it.
        self.refused(self.desk, "check half half\nkept 1 1\nheight 0 0\nlacks 7", NoLines, 2)

    def test_join(self):
        for row, name, pot in (
            ("join new less half 0", "new", put_together(LESSER, HALF, 0)),
            ("join new half less 1", "new", put_together(HALF, LESSER, 1)),
            ("join other half half 0", "other", put_together(HALF, HALF, 0)),
            ("join half half half 0", "half", put_together(HALF, HALF, 0)),
        ):
            self.said(self.desk, row, "ok")
            amounts = [str(4 + place) for place in range(len(pot[INPUTS]))]
            self.said(self.desk, " ".join(["begin", name] + amounts), " ".join(map(str, begun(pot, map(int, amounts)))))
            self.assertEqual(self.desk.say(f"falls {name}").split(" ")[0], "falls")
        self.said(self.desk, "ask quarter 1 part 1 0 4", "ok")
        self.said(self.desk, "judge half quarter", "paper")
        self.said(self.desk, "judge other quarter", "paper")
        # The name is the new pot's alone.
        self.said(self.desk, "join other less half 0", "ok")
        self.said(self.desk, "ends other 7 9", "1")
        # Made of the one just laid.
        self.said(self.desk, "join other other half 0", "ok")
        self.said(self.desk, "ends other 4 4", "0")

    def test_pots_that_are_not_joined(self):
        wide = (tuple("abcdefgh"), (), (0,), (50,) * 8, 1)
        many = (("a", "b"), tuple(((1, 0), (0, k)) for k in range(1, 9)), (0,), (50, 50), 1)
        three = (("a", "b", "c"), (), (0, 1, 2), (0, 0, 0), 0)
        for name, pot in (("eight", wide), ("many", many), ("three", three)):
            self.said(self.desk, pot_row(name, pot), "ok")
        before = answers(self.desk)
        for row, word, at in (
            ("join new more half 0", "taken", 1), ("join new same half 0", "taken", 0), ("join half great half 0", "taken", 3),
            ("join new less three 2", "inputs", 0), ("join new eight less 1", "sorts", 0),
            ("join new many half 0", "rules", 0), ("join new many many 0", "rules", 0),
        ):
            self.refused(self.desk, row, NoJoin, word, at)
        self.said(self.desk, pot_row("fifty", (("a",), (), (0,), (50,), 0)), "ok")
        self.refused(self.desk, "join fifty fifty fifty 0", NoJoin, "begin", 0)
        self.said(self.desk, "begin fifty 0", "50")
        self.refused(self.desk, "begin new 1", NoRow)
        self.assertEqual(answers(self.desk), before)


class TestNames(Told):
    def test_at_first_none(self):
        desk = Desk()
        for row in ("keeps half", "begin half 7", "judge half half", "join half half half 0", "paper half half", CHECK_HALF):
            self.refused(desk, row, NoRow)

    def test_a_pot_and_an_ask_called_alike(self):
        desk = Desk()
        self.said(desk, pot_row("half", HALF), "ok")
        self.refused(desk, "judge half half", NoRow)
        self.said(desk, "ask half 1 part 1 0 2", "ok")
        self.said(desk, "judge half half", "paper")
        self.said(desk, "ask half 1 sum 1 0", "ok")
        self.said(desk, "judge half half", "wrong")
        self.said(desk, "begin half 7", "7 0")
        self.said(desk, pot_row("half", (("x", "y"), (((1, 0), (0, 1)),), (0,), (0, 0), 1)), "ok")
        self.said(desk, "judge half half", "paper")
        # An ask's name is no pot's, nor the other way.
        desk = Desk()
        self.said(desk, "ask half 1 part 1 0 2", "ok")
        for row in ("judge half half", "keeps half", "falls half", "begin half 1", "join half half half 0"):
            self.refused(desk, row, NoRow)

    def test_a_name_laid_anew(self):
        desk = laid_desk()
        self.said(desk, "begin half 7", "7 0")
        self.said(desk, pot_row("half", LESSER), "ok")
        self.refused(desk, "begin half 7", NoRow)
        self.said(desk, "begin half 7 8", "7 8 0")
        self.refused(desk, "judge half half", NoRow)
        self.said(desk, "ask half 2 least 1 0 0 / 0 1 0", "ok")
        self.said(desk, "judge half half", "paper")

    def test_names_of_all_kinds(self):
        desk = Desk()
        for name in ("a", "abcdefgh", "pot", "ask", "none", "many", "ok", "walk", "sort"):
            self.said(desk, pot_row(name, HALF), "ok")
            self.said(desk, f"ask {name} 1 part 1 0 2", "ok")
            self.said(desk, f"judge {name} {name}", "paper")
            self.said(desk, f"walk {name} 7 0", "5 1")

    def test_asks_for_none_to_three(self):
        desk = laid_desk()
        for many, words, pot in ((0, "sum 5", "still"), (1, "part 1 0 2", "half"), (2, "least 1 0 0 / 0 1 0", "less")):
            self.said(desk, f"ask new {many} {words}", "ok")
            for name in ("still", "half", "less"):
                if name == pot:
                    self.said(desk, f"judge {name} new", "paper")
                else:
                    self.refused(desk, f"judge {name} new", NoRow)
        self.said(desk, "ask new 3 most 1 2 3 4 / -5 -6 -7 -99", "ok")
        self.refused(desk, "judge less new", NoRow)

    def test_two_desks_by_turns(self):
        one, other = Desk(), Desk()
        self.said(one, pot_row("a", HALF), "ok")
        self.refused(other, "begin a 7", NoRow)
        self.said(other, pot_row("a", LESSER), "ok")
        self.said(one, "ask a 1 part 1 0 2", "ok")
        self.said(other, "ask a 2 least 1 0 0 / 0 1 0", "ok")
        for turn in range(3):
            self.said(one, "begin a 7", "7 0")
            self.said(other, "begin a 7 8", "7 8 0")
            self.said(one, "judge a a", "paper")
            self.said(other, "judge a a", "paper")
        self.said(one, "join a a a 0", "ok")
        self.said(one, "judge a a", "wrong")
        self.said(other, "judge a a", "paper")
        self.said(other, pot_row("a", SUM), "ok")
        self.said(one, "ends a 7", "1")
        self.said(other, "ends a 7 1", "18")
        self.refused(Desk(), "begin a 7", NoRow)


class TestRefusals(Told):
    def setUp(self):
        self.desk = laid_desk()
        self.before = answers(self.desk)

    def tearDown(self):
        # Behind each refusal the desk answers as ahead of it.
        self.assertEqual(answers(self.desk), self.before)

    def none(self, *rows):
        for row in rows:
            self.refused(self.desk, row, NoRow)

    def test_other_first_words(self):
        self.none(
            "", " ", "half", "Begin half 7", "BEGIN half 7", "begins half 7", "end half 7", "sorts a", "rule 1 a to 1 b",
            "fault half half", "none", "ok", "make half", "\n", "\n\n", "beginhalf 7", "0", "pots a\nsorts a", "fewest 1",
        )

    def test_words_too_few(self):
        self.none(
            "pot", "pot\nsorts a", "ask", "ask new", "ask new 1", "begin", "begin half", "begin less", "begin less 3",
            "walk", "walk half", "walk less 3", "ends", "ends half", "ends less 3", "keeps", "falls", "judge",
            "judge half", "paper", "paper half", "check", "check half", "check\nheight 1 0", "check half\nheight 1 0",
            "join", "join new", "join new less", "join new less half",
        )

    def test_words_too_many(self):
        self.none(
            "\n".join(["pot new more"] + shown_pot(HALF)), "begin half 7 7", "begin still 5", "begin less 3 5 7",
            "ends half 7 7", "ends still 0", "keeps half half", "keeps half 0", "falls half 0", "judge half half half",
            "judge half half 0", "paper half half 0", CHECK_HALF.replace("check half half", "check half half half", 1),
            "join new less half 0 0", "join new less half 0 less",
        )

    def test_blanks(self):
        self.none(
            " begin half 7", "begin half 7 ", "begin  half 7", "begin half  7", "begin still ", "begin  still", "walk half 7 ",
            "walk half 7  0", "walk half 7 0 ", " walk half 7 0", "ends half 7 ", "ends  half 7", "keeps half ",
            "keeps  half", " keeps half", "falls half ", "judge half half ", "judge half  half", "judge  half half",
            "paper half half ", "paper  half half", " paper half half", "join new less half 0 ", "join  new less half 0",
            "join new less half  0", "ask  new 1 sum 1 0", " ask new 1 sum 1 0", "ask new  1 sum 1 0",
            CHECK_HALF.replace("half half", "half half ", 1), CHECK_HALF.replace("half half", "half  half", 1), " " + CHECK_HALF,
            pot_row("new ", HALF), pot_row(" new", HALF), " " + pot_row("new", HALF), pot_row("", HALF),
        )

    def test_names_that_are_none(self):
        for name in (
            "", "A", "Half", "a1", "1", "abcdefghi", "sorts", "begin", "in", "out", "rule", "to", "a-b", "a_b", "half,", "*",
        ):
            self.none(
                pot_row(name, HALF), f"ask {name} 1 sum 1 0", f"join {name} less half 0", f"begin {name} 7",
                f"keeps {name}", f"judge {name} half", f"judge half {name}", f"join new {name} half 0",
                f"join new less {name} 0",
            )

    def test_names_that_are_not_there(self):
        self.none(
            "begin new 7", "walk new 7 0", "ends new 7", "keeps new", "falls new", "judge new half", "judge half new",
            "paper new half", "paper half new", "check new half\nheight 1 0", "check half new\nheight 1 0",
            "join new new half 0", "join new less new 0", "join new least half 0", "keeps five", "judge five five",
            "begin two 1 2", "judge half less",
        )

    def test_unlike_counts_of_inputs(self):
        self.none(
            "judge half least", "judge half five", "judge half three", "judge less half", "judge still half",
            "paper half least", "paper less one", "check half least\nheight 1 0", "check still half\nno paper at all",
            "judge less three", "paper still three",
        )

    def test_numbers(self):
        for number in (
            "07", "00", "-1", "-0", "+7", "", "a", "1a", "1.0", "7,", "10000000000000", "99999999999999", "00000000000001", "0x1",
            "1_0", "half", "seven", "1" * 5000,
        ):
            self.none(
                f"begin half {number}", f"begin less 1 {number}", f"begin less {number} 1", f"walk half {number} 0",
                f"walk half 7 {number}", f"walk half 7 0 {number}", f"ends half {number}", f"join new less half {number}",
                f"ask new {number} sum 1 0",
            )

    def test_how_many_inputs_an_ask_is_for(self):
        self.none("ask new 4 sum 1 1 1 1 0", "ask new 5 sum", "ask new 9999999999999 sum", "ask new one sum 1 0",
                  "ask new sum 1 0", "ask new -1 sum 1 0")

    def test_no_input_of_the_other(self):
        self.none(
            "join new less half 1", "join new less half 2", "join new half less 2", "join new half still 0",
            "join new less half 9999999999999", "join new more half 1", "join new half less 3",
        )

    def test_lines_behind(self):
        self.none(
            "begin half 7\n", "begin half 7\nbegin half 7", "begin half\n7", "walk half 7 0\n", "walk half 7\n0",
            "ends half 7\n", "keeps half\n", "falls half\n", "\nfalls half", "judge half half\n", "judge half\nhalf",
            "paper half half\n", "paper half half\nheight 1 0", "ask new 1 sum 1 0\n", "ask new 1 sum\n1 0",
            "ask new 1\nsum 1 0", "ask new 1 sum 1 0\nsum 1 0", "join new less half 0\n", "join new less half\n0",
        )
        # None where some belong.
        self.none("pot new", "check half half", "pot half", "check less least")

    def test_a_row_that_is_none_goes_ahead_of_all_else(self):
        self.none(
            "pot New\nno pot", "pot new one\nno pot", "ask new 4 no ask", "ask New 1 no ask", "ask new 1 no\nask",
            "check half least\nno paper", "check half new\nno paper", "check new half\nno paper", "walk half 7 9 x",
            "walk half 7 9 -1", "join new more half 1", "join New more half 0", "join new more new 0",
            "join new more half 00",
        )

    def test_lines_that_write_no_pot(self):
        for lines, line, word in (
            ([""], 0, 0), (["no pot"], 0, 0), (["sorts"], 0, 1), (["sorts a"], 1, 0), (["sorts a a"], 0, 2),
            (["sorts a", "begin 0", "in"], 3, 0), (["sorts a", "begin 100", "in", "out a"], 1, 1),
            (["sorts a", "begin 0", "in b", "out a"], 2, 1), (["sorts a", "begin 0", "in", "out a", "rule 1 a to 1 a"], 4, 6),
            (["sorts a", "begin 0", "in", "out a", ""], 4, 0), (["sorts  a", "begin 0", "in", "out a"], 0, 1),
            (["sorts a", "begin 0", "in", "out a", "rule 1 a to", "rule 1 a"], 5, 3),
            (["sorts a ", "begin 0", "in", "out a"], 0, 2), (["", "sorts a", "begin 0", "in", "out a"], 0, 0),
        ):
            for name in ("new", "half"):
                self.refused(self.desk, "\n".join([f"pot {name}"] + lines), NoPot, line, word)
        self.none("keeps new")

    def test_words_that_write_no_ask(self):
        for many, words, word in (
            (1, "no", 0), (1, "Sum 1 0", 0), (1, "sum", 1), (1, "sum 1", 2), (1, "sum 1 0 0", 3), (1, "sum 01 0", 1),
            (1, "sum 100 0", 1), (1, "sum 1 -100", 2), (2, "sum 1 0", 3), (0, "sum 1 0", 2), (1, "part 1 0 1", 3),
            (1, "part 1 0", 3), (2, "least 1 0 0 0 1 0", 4), (2, "least 1 0 0 / 0 1", 7), (1, "half half", 0),
            # A word without signs is a word of the ask, too.
            (1, "sum  1 0", 1), (1, "sum 1 0 ", 3), (1, " sum 1 0", 0), (1, "", 0),
        ):
            for name in ("new", "half"):
                self.refused(self.desk, f"ask {name} {many} {words}", NoAsk, word)
        self.none("judge half new")

    def test_all_refusals_at_one_desk(self):
        for row in ("pot half\nno", "ask half 1 no", "walk half 7 5", "join half more half 0", "check half half\nno", "no"):
            with self.assertRaises(DropError):
                self.desk.say(row)
            self.assertEqual(answers(self.desk), self.before)


class TestLongRows(Told):
    def test_long_rows(self):
        desk = laid_desk()
        self.refused(desk, "a" * 100000, NoRow)
        self.refused(desk, "pot " + "a" * 99996, NoRow)
        self.refused(desk, "pot new\nsorts" + " a" * 49000, NoPot, 0, 2)
        self.refused(desk, "pot new" + "\n" * 90000, NoPot, 0, 0)
        self.refused(desk, "ask new 1 sum 1 " + "1" * 90000, NoAsk, 2)
        self.refused(desk, "check half half" + "\n" * 90000, NoLines, 0)
        self.refused(desk, "begin half " + "1" * 90000, NoRow)
        self.refused(desk, "walk half 7" + " 0" * 40000, NoStep, 3)
        lines = "\n".join(["kept 1 2", "height 1 0"] + ["lacks 0"] * 39 + ["shut"])
        self.said(desk, "check half half\n" + lines, "leaf 0")
        lines = "\n".join(["kept 1 2", "height 1 0"] + ["lacks 0"] * 40 + ["shut"])
        self.refused(desk, "check half half\n" + lines, NoLines, 42)
        long_number = "1" + "0" * 998
        self.said(desk, f"check half half\nkept 1 2\nheight {long_number} 0\nshut 0:{long_number}", "leaf 0")

    def test_pots_of_every_make(self):
        desk = Desk()
        for pot in POTS:
            self.said(desk, pot_row("a", pot), "ok")
            amounts = tuple(range(len(pot[INPUTS])))
            row = " ".join(["begin", "a"] + [str(amount) for amount in amounts])
            self.said(desk, row, " ".join(str(count) for count in begun(pot, amounts)))


if __name__ == "__main__":
    unittest.main()
