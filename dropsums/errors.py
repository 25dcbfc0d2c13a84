"""The refusals, all under one base and none under another one."""


class DropError(ValueError):
    """Any refusal; made of a text."""


# Each refusal keeps its fields and builds no sentence of them: a number of any size must fit in.


class NoPot(DropError):
    """Lines that write no pot."""

    def __init__(self, line, word):
        self.line = line
        self.word = word


class NoStep(DropError):
    """A rule that can't go."""

    def __init__(self, place):
        self.place = place


class NoAsk(DropError):
    """A text that writes no ask."""

    def __init__(self, word):
        self.word = word


class NoPaper(DropError):
    """A thing that is not let by as a paper."""

    def __init__(self, word, at):
        self.word = word
        self.at = at


class NoLines(DropError):
    """Lines that write no paper."""

    def __init__(self, line):
        self.line = line


class NoFault(DropError):
    """A thing that is not let by as a fault."""

    def __init__(self, word, at):
        self.word = word
        self.at = at


class NoJoin(DropError):
    """Two pots that can't be put together."""

    def __init__(self, word, at):
        self.word = word
        self.at = at


class NoRow(DropError):
    """A row that a desk doesn't know."""

    def __init__(self, text):
        self.text = text
