"""Pots written as lines and read from them."""

from dropsums.errors import NoPot
from dropsums.figures import is_figures
from dropsums.pots import ANSWER, BEGIN, GIVES, INPUTS, RULES, SORTS, TAKES
from dropsums.pots import MOST_BEGIN, MOST_DROPS, MOST_INPUTS, MOST_RULES, MOST_SORTS
from dropsums.pots import is_name

# Where the lines stand; the rules come from FIRST_RULE on.
SORTS_LINE = 0
BEGIN_LINE = 1
IN_LINE = 2
OUT_LINE = 3
FIRST_RULE = 4

# No number of a pot is longer.
MOST_FIGURES = 2


def shown_pot(pot):
    """The pot as a list of lines."""
    sorts = pot[SORTS]
    lines = [
        in_a_row("sorts", sorts),
        in_a_row("begin", [str(count) for count in pot[BEGIN]]),
        in_a_row("in", [sorts[sort] for sort in pot[INPUTS]]),
        in_a_row("out", [sorts[pot[ANSWER]]]),
    ]
    for rule in pot[RULES]:
        sides = shown_side(sorts, rule[TAKES]) + ["to"] + shown_side(sorts, rule[GIVES])
        lines.append(in_a_row("rule", sides))
    return lines


def in_a_row(first, words):
    return " ".join([first] + list(words))


def shown_side(sorts, counts):
    """The words for one side of a rule: how many and of which sort."""
    words = []
    for name, count in zip(sorts, counts):
        if count > 0:
            words.extend([str(count), name])
    return words


def read_pot(lines):
    """The pot that the lines write, or NoPot."""
    sorts = read_sorts(lines)
    begin = read_begin(lines, sorts)
    inputs = read_inputs(lines, sorts)
    answer = read_answer(lines, sorts)
    rules = tuple([read_rule(lines, line, sorts) for line in range(FIRST_RULE, len(lines))])
    return (sorts, rules, inputs, begin, answer)


def words_of(lines, line, first):
    """The words of a line that is due and has to begin with the first word."""
    # Lines are read in their order, so the line that lacks is just behind the last one there is.
    if line >= len(lines):
        raise NoPot(line, 0)
    words = lines[line].split(" ")
    if words[0] != first:
        raise NoPot(line, 0)
    return words


def read_sorts(lines):
    words = words_of(lines, SORTS_LINE, "sorts")
    names = []
    for place in range(1, len(words)):
        name = words[place]
        if len(names) == MOST_SORTS or not is_name(name) or name in names:
            raise NoPot(SORTS_LINE, place)
        names.append(name)
    if len(names) == 0:
        raise NoPot(SORTS_LINE, len(words))
    return tuple(names)


def read_begin(lines, sorts):
    words = words_of(lines, BEGIN_LINE, "begin")
    counts = []
    for place in range(1, len(words)):
        if len(counts) == len(sorts):
            raise NoPot(BEGIN_LINE, place)
        counts.append(read_number(words, BEGIN_LINE, place, 0, MOST_BEGIN))
    if len(counts) < len(sorts):
        raise NoPot(BEGIN_LINE, len(words))
    return tuple(counts)


def read_inputs(lines, sorts):
    words = words_of(lines, IN_LINE, "in")
    inputs = []
    for place in range(1, len(words)):
        sort = read_sort(words, IN_LINE, place, sorts)
        if len(inputs) == MOST_INPUTS or sort in inputs:
            raise NoPot(IN_LINE, place)
        inputs.append(sort)
    return tuple(inputs)


def read_answer(lines, sorts):
    words = words_of(lines, OUT_LINE, "out")
    if len(words) == 1:
        raise NoPot(OUT_LINE, 1)
    answer = read_sort(words, OUT_LINE, 1, sorts)
    if len(words) > 2:
        raise NoPot(OUT_LINE, 2)
    return answer


def read_rule(lines, line, sorts):
    words = words_of(lines, line, "rule")
    if line >= FIRST_RULE + MOST_RULES:
        raise NoPot(line, 0)
    middle = words.index("to") if "to" in words else len(words)
    takes = read_side(words, line, 1, middle, sorts)
    # At the middle stands a "to" that comes too early, or nothing.
    if middle == 1 or middle == len(words):
        raise NoPot(line, middle)
    gives = read_side(words, line, middle + 1, len(words), sorts)
    if takes == gives:
        raise NoPot(line, len(words))
    return (takes, gives)


def read_side(words, line, start, end, sorts):
    """The counts that the words from start on, ahead of end, tell."""
    counts = [0 for name in sorts]
    last = -1
    for place in range(start, end, 2):
        count = read_number(words, line, place, 1, MOST_DROPS)
        if place + 1 == end:
            raise NoPot(line, end)
        sort = read_sort(words, line, place + 1, sorts)
        if sort <= last:
            raise NoPot(line, place + 1)
        counts[sort] = count
        last = sort
    return tuple(counts)


def read_sort(words, line, place, sorts):
    """The number of the sort that a word names."""
    if words[place] not in sorts:
        raise NoPot(line, place)
    return sorts.index(words[place])


def read_number(words, line, place, low, high):
    """The number from low to high that a word writes."""
    word = words[place]
    # Python turns no text of some thousand figures into a number: such a word must not come so far.
    if not is_figures(word) or len(word) > MOST_FIGURES:
        raise NoPot(line, place)
    number = int(word)
    if not low <= number <= high:
        raise NoPot(line, place)
    return number
