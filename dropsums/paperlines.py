"""Papers written as lines and read from them."""

from dropsums.asks import pieces_of
from dropsums.errors import NoLines
from dropsums.figures import is_figures, is_signed_figures, shown_whole, shown_wholes, whole_of
from dropsums.papers import HEIGHTS, KEPTS, MOST_KEPTS, MOST_TREES, MOST_WITHIN, TREE
from dropsums.papers import is_right, sorts_taken, trees_within
from dropsums.pots import RULES, SORTS
from dropsums.weights import is_weights


def shown_paper(paper):
    """The paper as a list of lines."""
    lines = ["kept " + shown_wholes(kept) for kept in paper[KEPTS]]
    lines.append("height " + shown_wholes(paper[HEIGHTS]))
    return lines + shown_tree(paper[TREE])


def shown_tree(tree):
    """The tree's own line, and behind it those of the trees within it."""
    lines = [shown_head(tree)]
    for inner in trees_within(tree):
        lines.extend(shown_tree(inner))
    return lines


def shown_head(tree):
    """The line of the tree alone."""
    if tree[0] == "lacks":
        return "lacks " + shown_whole(tree[1])
    if tree[0] == "cut":
        return "cut " + shown_wholes(tree[1:3])
    if tree[0] == "shut":
        return " ".join(["shut"] + shown_weights(tree[1]))
    words = ["right", shown_whole(tree[1])]
    for ground in tree[2]:
        words.extend(["/"] + shown_weights(ground))
    return " ".join(words)


def shown_weights(weights):
    return [shown_whole(number) + ":" + shown_whole(times) for number, times in weights]


def read_paper(pot, ask, lines):
    """The paper of right shape that the lines write, or NoLines."""
    many = len(pot[SORTS])
    kepts = read_kepts(many, lines)
    heights = read_heights(many, lines, len(kepts))
    reader = TreeReader(pot, pieces_of(pot, ask), lines, len(kepts) + 1)
    tree = reader.read_tree(1)
    if reader.line < len(lines):
        raise NoLines(reader.line)
    return (kepts, heights, tree)


def read_kepts(many, lines):
    """The kepts of all first lines that begin so."""
    kepts = []
    for line, text in enumerate(lines):
        words = text.split(" ")
        if words[0] != "kept":
            break
        if line == MOST_KEPTS or len(words) != many + 1 or not all([is_signed_figures(word) for word in words[1:]]):
            raise NoLines(line)
        kepts.append(tuple([whole_of(word) for word in words[1:]]))
    return tuple(kepts)


def read_heights(many, lines, line):
    words = words_at(lines, line)
    if words[0] != "height" or len(words) != many + 1:
        raise NoLines(line)
    return tuple(read_counts(words[1:], line))


def words_at(lines, line):
    """The words of a line that is due."""
    # Lines are read in their order, so the line that lacks is just behind the last one there is.
    if line >= len(lines):
        raise NoLines(line)
    return lines[line].split(" ")


def read_counts(words, line):
    """The whole numbers from 0 on that the words of this line write."""
    if not all([is_figures(word) for word in words]):
        raise NoLines(line)
    return [whole_of(word) for word in words]


def read_weights(words, line):
    """The weights that the words of this line write."""
    pairs = [tuple(read_counts(word.split(":"), line)) for word in words]
    if not is_weights(tuple(pairs)):
        raise NoLines(line)
    return tuple(pairs)


def read_grounds(words, line):
    """The weights behind each / among the words of this line."""
    if len(words) == 0 or words[0] != "/":
        raise NoLines(line)
    starts = [place for place, word in enumerate(words) if word == "/"]
    ends = starts[1:] + [len(words)]
    return tuple([read_weights(words[start + 1:end], line) for start, end in zip(starts, ends)])


class TreeReader:
    """The lines of trees, read one behind the other; it keeps the next line and how many trees were read."""

    def __init__(self, pot, pieces, lines, line):
        self.pot = pot
        self.pieces = pieces
        self.lines = lines
        self.line = line
        self.trees_read = 0

    def read_tree(self, within):
        """The tree that begins at the next line, so many within one another."""
        line = self.line
        words = words_at(self.lines, line)
        if self.trees_read == MOST_TREES or within > MOST_WITHIN:
            raise NoLines(line)
        self.trees_read += 1
        self.line += 1
        if words[0] == "lacks":
            return self.read_lacks(words, line, within)
        if words[0] == "cut":
            return self.read_cut(words, line, within)
        if words[0] == "shut":
            return ("shut", read_weights(words[1:], line))
        if words[0] == "right":
            return self.read_right(words, line)
        raise NoLines(line)

    def read_lacks(self, words, line, within):
        numbers = read_counts(words[1:], line)
        if len(numbers) != 1 or numbers[0] >= len(self.pot[RULES]):
            raise NoLines(line)
        trees = [self.read_tree(within + 1) for sort in sorts_taken(self.pot, numbers[0])]
        return ("lacks", numbers[0], tuple(trees))

    def read_cut(self, words, line, within):
        numbers = read_counts(words[1:], line)
        if len(numbers) != 2 or numbers[0] >= len(self.pot[SORTS]):
            raise NoLines(line)
        low = self.read_tree(within + 1)
        high = self.read_tree(within + 1)
        return ("cut", numbers[0], numbers[1], low, high)

    def read_right(self, words, line):
        numbers = read_counts(words[1:2], line)
        grounds = read_grounds(words[2:], line)
        if not is_right(self.pieces, numbers[0], grounds):
            raise NoLines(line)
        return ("right", numbers[0], grounds)
