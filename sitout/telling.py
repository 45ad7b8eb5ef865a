"""Telling: which rules fit to what a caller has seen of a server."""

from sitout.basics import is_sequence
from sitout.errors import InvalidSeen
from sitout.machines import Machine

# What a caller sees of a letter. It does not see how a server that it skips would have answered.
_SIGHTS = {"felt": "fault", "missed": "skip", "ok": "ok", "skip": "skip", "told": None}


def fits(rule, seen, free=()):
    """Whether some row of letters brings just what was seen."""
    _check_seen(seen)
    return _misfit(rule, seen, free) is None


def fitting(rules, seen, free=()):
    """The numbers of those of some rules to which it fits what was seen, ascending."""
    _check_seen(seen)
    return tuple([at for at, rule in enumerate(rules) if _misfit(rule, seen, free) is None])


def first_misfit(rule, seen, free=()):
    """The number of the first thing behind which what was seen up to there fits no more, or None."""
    _check_seen(seen)
    return _misfit(rule, seen, free)


def _check_seen(seen):
    """Raises an error for any value that cannot have been seen."""
    if not is_sequence(seen):
        raise InvalidSeen(0)
    for at, thing in enumerate(seen):
        if thing not in ("fault", "ok", "skip"):
            raise InvalidSeen(at)


def _misfit(rule, seen, free):
    """The number of the first thing that no row of letters brings behind those ahead of it, or None."""
    machine = Machine(rule, free)
    numbers = [0]
    for at, thing in enumerate(seen):
        numbers = _behind(machine, _heard(machine, numbers), thing)
        if not numbers:
            return at
    return None


def _heard(machine, numbers):
    """The numbers that words lead to from some numbers, these ones among them."""
    found = {at: True for at in numbers}
    waiting = list(numbers)
    while waiting:
        at = waiting.pop()
        for behind, what in machine.moves[at]:
            if what == "told" and behind not in found:
                found[behind] = True
                waiting.append(behind)
    return list(found)


def _behind(machine, numbers, thing):
    """The numbers that a turn at which this is seen leads to from some numbers."""
    found = {}
    for at in numbers:
        for behind, what in machine.moves[at]:
            if _SIGHTS[what] == thing:
                found[behind] = True
    return list(found)
