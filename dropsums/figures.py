"""Whole numbers written by figures, and read from them, however many figures they have."""

FIGURES = "0123456789"

# Python turns no number of some thousand figures into a text, nor back: so it goes by parts of so many figures.
PART = 18
PART_SIZE = 1_000_000_000_000_000_000


def is_figures(word):
    """Whether the word writes a whole number from 0 on: no 0 ahead but in 0 itself."""
    if word == "" or not all([sign in FIGURES for sign in word]):
        return False
    return word == "0" or word[0] != "0"


def is_signed_figures(word):
    """Whether the word writes a whole number, a - ahead of it below 0."""
    if word.startswith("-"):
        return word != "-0" and is_figures(word[1:])
    return is_figures(word)


def whole_of(word):
    """The whole number that the word writes."""
    if word.startswith("-"):
        return -whole_of(word[1:])
    number = 0
    ahead = len(word) % PART
    if ahead > 0:
        number = int(word[:ahead])
    for start in range(ahead, len(word), PART):
        number = number * PART_SIZE + int(word[start:start + PART])
    return number


def shown_whole(number):
    """The word that writes a whole number."""
    if number < 0:
        return "-" + shown_whole(-number)
    behind = ""
    left = number
    while left >= PART_SIZE:
        behind = str(left % PART_SIZE).zfill(PART) + behind
        left = left // PART_SIZE
    return str(left) + behind


def shown_wholes(numbers):
    """The words that write the numbers, parted by single blanks."""
    return " ".join([shown_whole(number) for number in numbers])
