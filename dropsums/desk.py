"""A desk: pots and asks kept by names, and rows that are answered with texts."""

from dropsums.asks import BY, read_ask
from dropsums.checker import lets_paper
from dropsums.coming import all_from, ended_of
from dropsums.errors import NoPaper
from dropsums.falling import falls
from dropsums.figures import shown_whole, shown_wholes
from dropsums.finding import paper_for
from dropsums.judging import judged
from dropsums.orders import walked
from dropsums.paperlines import read_paper, shown_paper
from dropsums.potlines import read_pot
from dropsums.pots import ANSWER, MOST_INPUTS, beginning, inputs_of
from dropsums.rows import Row
from dropsums.staying import all_kept
from dropsums.together import put_together

MOST_STANDS = 400

WITH_LINES = ("pot", "check")
OF_A_POT = ("keeps", "falls")
OF_AMOUNTS = ("begin", "walk", "ends")
OF_POT_AND_ASK = ("judge", "paper", "check")


class Desk:
    """Pots and asks by names, at first none."""

    def __init__(self):
        self.pots = {}
        self.asks = {}

    def say(self, row):
        """The answer to a row, a text; NoRow, ahead of all else, where it is none."""
        said = Row(row)
        word = said.word_at(0)
        said.look((word in WITH_LINES) == (len(said.behind) > 0))
        if word == "pot":
            return self.lay_pot(said)
        if word == "ask":
            return self.lay_ask(said)
        if word == "join":
            return self.lay_joined(said)
        if word in OF_A_POT:
            return self.say_of_pot(said, word)
        if word in OF_AMOUNTS:
            return self.say_of_amounts(said, word)
        said.look(word in OF_POT_AND_ASK)
        return self.say_of_both(said, word)

    def lay_pot(self, said):
        said.look(len(said.words) == 2)
        name = said.name_at(1)
        self.pots[name] = read_pot(said.behind)
        return "ok"

    def lay_ask(self, said):
        said.look(len(said.words) >= 4)
        name = said.name_at(1)
        many = said.number_at(2)
        said.look(many <= MOST_INPUTS)
        self.asks[name] = read_ask(many, " ".join(said.words[3:]))
        return "ok"

    def lay_joined(self, said):
        said.look(len(said.words) == 5)
        name = said.name_at(1)
        one = said.called_at(2, self.pots)
        other = said.called_at(3, self.pots)
        k = said.number_at(4)
        said.look(k < inputs_of(other))
        self.pots[name] = put_together(one, other, k)
        return "ok"

    def say_of_pot(self, said, word):
        said.look(len(said.words) == 2)
        pot = said.called_at(1, self.pots)
        if word == "keeps":
            return shown_kepts(all_kept(pot))
        told = falls(pot)
        return told[0] + " " + shown_wholes(told[1])

    def say_of_amounts(self, said, word):
        pot = said.called_at(1, self.pots)
        many = inputs_of(pot)
        numbers = said.numbers_from(2)
        # Behind the amounts stands an order, perhaps of no rules, where one is walked alone.
        said.look(len(numbers) == many or (word == "walk" and len(numbers) > many))
        stand = beginning(pot, numbers[:many])
        if word == "begin":
            return shown_wholes(stand)
        if word == "walk":
            return shown_wholes(walked(pot, stand, numbers[many:]))
        return shown_ends(pot, all_from(pot, stand, MOST_STANDS))

    def say_of_both(self, said, word):
        said.look(len(said.words) == 3)
        pot = said.called_at(1, self.pots)
        ask = said.called_at(2, self.asks)
        said.look(len(ask[1][BY]) == inputs_of(pot))
        if word == "judge":
            return shown_judgment(judged(pot, ask))
        if word == "paper":
            paper = paper_for(pot, ask)
            return "none" if paper is None else "\n".join(shown_paper(paper))
        return checked(pot, ask, read_paper(pot, ask, said.behind))


def shown_kepts(kepts):
    if len(kepts) == 0:
        return "none"
    return " , ".join([shown_wholes(kept) for kept in kepts])


def shown_ends(pot, stands):
    """The answers of all of the stands that have ended, rising, each once."""
    if stands is None:
        return "many"
    answers = sorted(set([stand[pot[ANSWER]] for stand in ended_of(pot, stands)]))
    return "none" if len(answers) == 0 else shown_wholes(answers)


def shown_judgment(told):
    """Of a paper its name, of a fault its own word, else what it is left open by."""
    if told[0] == "paper":
        return "paper"
    return told[1][0] if told[0] == "fault" else told[1]


def checked(pot, ask, paper):
    """ok, or the word and the at of what is against the paper."""
    try:
        lets_paper(pot, ask, paper)
    except NoPaper as refusal:
        return refusal.word + " " + shown_whole(refusal.at)
    return "ok"
