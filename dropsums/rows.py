"""A row told to a desk: its words, and the lines behind them."""

from dropsums.errors import NoRow
from dropsums.figures import is_figures, whole_of
from dropsums.pots import is_name

MOST_FIGURES = 13


class Row:
    """The words of a row's first line, and its lines behind; what can't stand where it is due is refused with NoRow."""

    def __init__(self, text):
        lines = text.split("\n")
        self.text = text
        self.words = lines[0].split(" ")
        self.behind = lines[1:]

    def look(self, right):
        """NoRow where it isn't right."""
        if not right:
            raise NoRow(self.text)

    def word_at(self, place):
        self.look(place < len(self.words))
        return self.words[place]

    def name_at(self, place):
        self.look(is_name(self.word_at(place)))
        return self.words[place]

    def called_at(self, place, things):
        """The one of the things that is called by the name at this place."""
        self.look(self.word_at(place) in things)
        return things[self.words[place]]

    def number_at(self, place):
        word = self.word_at(place)
        self.look(is_figures(word) and len(word) <= MOST_FIGURES)
        return whole_of(word)

    def numbers_from(self, place):
        """The numbers at this place and all behind it, perhaps none; a tuple."""
        return tuple([self.number_at(later) for later in range(place, len(self.words))])
