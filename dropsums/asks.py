"""Asks: their kind, what they ask for, asks as words, and their pieces."""

from dropsums.errors import NoAsk
from dropsums.figures import is_signed_figures
from dropsums.forms import and_more, form_of_drops, form_of_number, less, noughts, so_often
from dropsums.pots import ANSWER, SORTS
from dropsums.wholes import is_whole_within, times_added

WORDS = ("sum", "part", "least", "most", "more", "same")

# Where the parts of a line stand in its tuple.
BY = 0
LINE_PLUS = 1

LINE_BOUNDS = (-99, 99)
PART_BOUNDS = (2, 9)
# No number of an ask is longer, its - told.
MOST_SIGNS = 3


def is_ask(many, thing):
    """Whether it is an ask for so many inputs."""
    if not isinstance(thing, tuple) or len(thing) < 2 or thing[0] not in WORDS:
        return False
    if thing[0] == "sum":
        return len(thing) == 2 and is_line(many, thing[1])
    if len(thing) != 3 or not is_line(many, thing[1]):
        return False
    if thing[0] == "part":
        return is_whole_within(thing[2], PART_BOUNDS[0], PART_BOUNDS[1])
    return is_line(many, thing[2])


def is_line(many, thing):
    if not isinstance(thing, tuple) or len(thing) != 2:
        return False
    if not isinstance(thing[BY], tuple) or len(thing[BY]) != many:
        return False
    return all([is_whole_within(number, LINE_BOUNDS[0], LINE_BOUNDS[1]) for number in thing[BY] + thing[LINE_PLUS:]])


def asked(ask, amounts):
    """What is asked for by these amounts."""
    one = line_at(ask[1], amounts)
    if ask[0] == "sum":
        return one
    if ask[0] == "part":
        return one // ask[2]
    other = line_at(ask[2], amounts)
    if ask[0] == "least":
        return min(one, other)
    if ask[0] == "most":
        return max(one, other)
    if ask[0] == "more":
        return 1 if one > other else 0
    return 1 if one == other else 0


def line_at(line, amounts):
    """What the line comes to by these amounts."""
    return times_added(line[BY], amounts) + line[LINE_PLUS]


def shown_ask(ask):
    """The ask as words."""
    words = [ask[0]] + shown_line(ask[1])
    if ask[0] == "part":
        words.append(str(ask[2]))
    elif ask[0] != "sum":
        words.extend(["/"] + shown_line(ask[2]))
    return " ".join(words)


def shown_line(line):
    return [str(number) for number in line[BY] + (line[LINE_PLUS],)]


def read_ask(many, text):
    """The ask for so many inputs that the text writes, or NoAsk."""
    words = text.split(" ")
    if words[0] not in WORDS:
        raise NoAsk(0)
    due = [words[0]] + due_behind(many, words[0])
    for place in range(1, len(words)):
        if place >= len(due) or not can_stand(words[place], due[place]):
            raise NoAsk(place)
    if len(words) < len(due):
        raise NoAsk(len(words))
    return ask_of_words(many, words)


def due_behind(many, word):
    """What is due behind an ask's first word: a pair of bounds for a number, and the / itself."""
    line = [LINE_BOUNDS for place in range(many + 1)]
    if word == "sum":
        return line
    if word == "part":
        return line + [PART_BOUNDS]
    return line + ["/"] + line


def can_stand(word, due):
    if due == "/":
        return word == "/"
    if not is_signed_figures(word) or len(word) > MOST_SIGNS:
        return False
    return due[0] <= int(word) <= due[1]


def ask_of_words(many, words):
    """The ask of words that can all stand where they are."""
    one = line_of_words(words[1:many + 2])
    if words[0] == "sum":
        return ("sum", one)
    if words[0] == "part":
        return ("part", one, int(words[-1]))
    return (words[0], one, line_of_words(words[many + 3:]))


def line_of_words(words):
    numbers = [int(word) for word in words]
    return (tuple(numbers[:-1]), numbers[-1])


def pieces_of(pot, ask):
    """Tuples of forms: the answer's drops are what is asked for just where all forms of some piece hold."""
    drops = form_of_drops(pot, pot[ANSWER])
    one = form_of_line(pot, ask[1])
    if ask[0] == "sum":
        return (both_ways(drops, one),)
    if ask[0] == "part":
        parts = so_often(drops, ask[2])
        return ((less(one, parts), and_more(less(parts, one), ask[2] - 1)),)
    return pieces_of_two(pot, ask[0], drops, one, form_of_line(pot, ask[2]))


def pieces_of_two(pot, word, drops, one, other):
    """The pieces of an ask with two lines, told as forms."""
    if word == "least":
        return (both_ways(drops, one) + (less(other, one),), both_ways(drops, other) + (less(one, other),))
    if word == "most":
        return (both_ways(drops, one) + (less(one, other),), both_ways(drops, other) + (less(other, one),))
    yes = both_ways(drops, form_of_number(pot, 1))
    no = both_ways(drops, form_of_number(pot, 0))
    above = and_more(less(one, other), -1)
    if word == "more":
        return (yes + (above,), no + (less(other, one),))
    below = and_more(less(other, one), -1)
    return (yes + both_ways(one, other), no + (above,), no + (below,))


def both_ways(one, other):
    """The two forms by which one is the other."""
    return (less(one, other), less(other, one))


def form_of_line(pot, line):
    return (line[BY], noughts(pot[SORTS]), line[LINE_PLUS])
