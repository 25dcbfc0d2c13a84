"""Two pots put together, the one's answer being an input of the other."""

from dropsums.asks import asked
from dropsums.errors import NoJoin
from dropsums.forms import noughts
from dropsums.pots import ANSWER, BEGIN, GIVES, INPUTS, LETTERS, RULES, SORTS, TAKES
from dropsums.pots import MOST_BEGIN, MOST_INPUTS, MOST_RULES, MOST_SORTS
from dropsums.pots import first_taker

ONE_LETTER = "p"
OTHER_LETTER = "q"


def put_together(one, other, k):
    """The pot of both, or NoJoin; the one's answer's sort is the other's input sort k."""
    taker = first_taker(one)
    if taker is not None:
        raise NoJoin("taken", taker)
    one_places = list(range(len(one[SORTS])))
    other_places = places_of(one, other, k)
    sorts = called_by(ONE_LETTER, len(one[SORTS])) + called_by(OTHER_LETTER, len(other[SORTS]) - 1)
    none = noughts(sorts)
    pot = (
        sorts,
        rules_laid(none, one_places, one[RULES]) + rules_laid(none, other_places, other[RULES]),
        one[INPUTS] + tuple([other_places[sort] for number, sort in enumerate(other[INPUTS]) if number != k]),
        laid(laid(none, one_places, one[BEGIN]), other_places, other[BEGIN]),
        other_places[other[ANSWER]],
    )
    look_at_bounds(pot)
    return pot


def places_of(one, other, k):
    """For each sort of the other its number in the pot of both."""
    shared = other[INPUTS][k]
    behind = len(one[SORTS])
    places = []
    for sort in range(len(other[SORTS])):
        if sort == shared:
            places.append(one[ANSWER])
        else:
            places.append(behind)
            behind += 1
    return places


def called_by(letter, many):
    """So many names that begin with the letter."""
    return tuple([letter + LETTERS[number] for number in range(many)])


def rules_laid(none, places, rules):
    return tuple([(laid(none, places, rule[TAKES]), laid(none, places, rule[GIVES])) for rule in rules])


def laid(counts, places, more):
    """The counts, to each at one of the places what is more there added."""
    told = list(counts)
    for place, count in zip(places, more):
        told[place] += count
    return tuple(told)


def look_at_bounds(pot):
    """NoJoin where the pot is beyond the bounds of one."""
    if len(pot[INPUTS]) > MOST_INPUTS:
        raise NoJoin("inputs", 0)
    if len(pot[SORTS]) > MOST_SORTS:
        raise NoJoin("sorts", 0)
    if len(pot[RULES]) > MOST_RULES:
        raise NoJoin("rules", 0)
    if max(pot[BEGIN]) > MOST_BEGIN:
        raise NoJoin("begin", 0)


def asked_in_a_row(many, one, other, k, amounts):
    """What the other asks for, its input k being what the one asks for; the one's inputs are so many, and first."""
    first = asked(one, amounts[:many])
    return asked(other, amounts[many:many + k] + (first,) + amounts[many + k:])
