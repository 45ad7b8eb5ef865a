"""Values of many kinds, for what the document describes for any value."""

from sitout import errors
from sitout.desk import Desk
from sitout.live import Live
from sitout.plays import play
from sitout.roads import Road
from sitout.rules import Rule

TEXT = "leave 2 of 3 out 1 more 2 most 6 calm 4 back half share 1/2 up hears out"

# The arguments of the rule with this text, in their order.
GOOD = {
    "need": 2,
    "of": 3,
    "base": 1,
    "more": 2,
    "most": 6,
    "calm": 4,
    "back": "half",
    "top": 1,
    "under": 2,
    "up": True,
    "hears": "out",
}


def rule(**changed):
    return Rule(**{**GOOD, **changed})


def nested(deep):
    """A list, in turn with tuples, so many deep."""
    value = []
    for level in range(deep - 1):
        value = (value,) if level % 2 == 0 else [value]
    return value


def not_integers():
    """Values of every kind of which none is an integer."""
    return [
        True, False, None, "", "0", "1", "2", "half", "ok", "turn 0 0 ok", TEXT,
        [], (), [1], (1,), [None], (True, "a", [2]), ["turn 0 0 ok"], nested(10),
        rule(), Road(1, 1), Road(2, 2, ["turn 0 0 ok"]),
        errors.SitError(), errors.InvalidRule("need"), errors.InvalidGoal(), errors.NoEvent(0),
        [rule(), (Road(1, 1),)],
        Live(rule(), 1, 2), Desk(), play(rule(), Road(1, 1)), [Live(rule(), 1, 1)], (Desk(),),
    ]


def values():
    """Values of every kind."""
    return not_integers() + [0, 1, -1, 2, 9, 10**30, -(10**30)]


def not_sequences():
    """Values of every kind of which none is a list or a tuple."""
    return [value for value in values() if not isinstance(value, (list, tuple))]


def no_whats():
    """Values of every kind of which none is a word for what is counted."""
    words = [
        "Felt", "FELT", "felt ", " felt", "felt\n", "fel", "felts", "miss", "Missed", "missed ", "misse", "skip", "told",
        "fault", "full", "all", "felt missed",
    ]
    rows = [["felt"], ("felt",), ["missed"], ("missed",), ("felt", "missed"), ["felt", "missed"], [["felt"]]]
    return values() + words + rows
