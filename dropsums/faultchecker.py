"""The small checker of faults: it seeks nothing, and a pot with a fault that it lets by doesn't keep the ask."""

from dropsums.asks import asked
from dropsums.errors import NoFault, NoStep
from dropsums.orders import walked
from dropsums.pots import ANSWER, SORTS
from dropsums.pots import beginning, inputs_of, is_amounts, is_stand
from dropsums.steps import gone, has_ended, rules_there
from dropsums.wholes import are_counts

# Where the parts of a fault stand in its tuple; behind the order comes another one, or stands, or nothing.
WORD = 0
AMOUNTS = 1
ORDER = 2
LAST = 3

MOST_STANDS = 400


def lets_fault(pot, ask, thing):
    """True where the thing shows that the pot doesn't keep the ask; else NoFault."""
    if not is_fault(pot, thing):
        raise NoFault("shape", 0)
    due = asked(ask, thing[AMOUNTS])
    if thing[WORD] == "never":
        look_at_stands(pot, due, led_to(pot, thing[AMOUNTS], thing[ORDER]), thing[LAST])
    else:
        look_at_ends(pot, due, [led_to(pot, thing[AMOUNTS], order) for order in thing[ORDER:]])
    return True


def is_fault(pot, thing):
    """Whether it is a fault of the pot by kind."""
    if not isinstance(thing, tuple) or not 3 <= len(thing) <= 4:
        return False
    if not is_amounts(inputs_of(pot), thing[AMOUNTS]) or not is_order(thing[ORDER]):
        return False
    if len(thing) == 3:
        return thing[WORD] == "wrong"
    if thing[WORD] == "unlike":
        return is_order(thing[LAST])
    return thing[WORD] == "never" and are_rising_stands(len(pot[SORTS]), thing[LAST])


def is_order(thing):
    """Whether it is a tuple of whole numbers from 0 on, perhaps of no rules."""
    return isinstance(thing, tuple) and are_counts(len(thing), thing)


def are_rising_stands(many, thing):
    if not isinstance(thing, tuple) or not 1 <= len(thing) <= MOST_STANDS:
        return False
    if not all([is_stand(many, stand) for stand in thing]):
        return False
    return all([one < other for one, other in zip(thing, thing[1:])])


def led_to(pot, amounts, order):
    """The stand to which the order leads from the beginning, or NoFault."""
    try:
        return walked(pot, beginning(pot, amounts), order)
    except NoStep as refusal:
        raise NoFault("order", refusal.place)


def look_at_ends(pot, due, ends):
    """NoFault where one has not ended, or the answers say nothing against the pot."""
    for number, end in enumerate(ends):
        if not has_ended(pot, end):
            raise NoFault("ended", number)
    answers = [end[pot[ANSWER]] for end in ends]
    # A single end is held against what is asked for, two are held against one another.
    if len(answers) == 1:
        answers.append(due)
    if answers[0] == answers[1]:
        raise NoFault("answer", 0)


def look_at_stands(pot, due, stand, stands):
    """NoFault where the stand is none of them, a rule leads out of them, or one has the answer."""
    known = dict([(there, True) for there in stands])
    if stand not in known:
        raise NoFault("stand", 0)
    for number, there in enumerate(stands):
        if any([gone(pot, there, rule) not in known for rule in rules_there(pot, there)]):
            raise NoFault("leads", number)
    for number, there in enumerate(stands):
        if there[pot[ANSWER]] == due:
            raise NoFault("answer", number)
