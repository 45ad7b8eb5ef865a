"""Papers: what shows that no share of turns that are felt or missed is greater than a told one."""

from sitout.basics import is_between, is_integer
from sitout.climbing import check_what, climb, weighed
from sitout.machines import Machine
from sitout.standings import begun, letters, step


def paper(rule, what, share, free=()):
    """Some right paper, or None if the worst share is greater than this one."""
    check_what(what)
    machine = Machine(rule, free)
    heights, ring = climb(weighed(machine, what, share))
    if ring is not None:
        return None
    return tuple(zip(machine.places, heights))


def paper_holds(rule, what, share, value, free=()):
    """Whether a value, any one, is a right paper."""
    check_what(what)
    heights = _heights(rule, value)
    if heights is None or begun() not in heights:
        return False
    alphabet = letters(free)
    return all([_goes_down(rule, what, share, heights, standing, alphabet) for standing in heights])


def _heights(rule, value):
    """The height of each standing by a value that has the form of a paper, or None for any other value."""
    if not isinstance(value, tuple):
        return None
    heights = {}
    for entry in value:
        if not isinstance(entry, tuple) or len(entry) != 2:
            return None
        standing, height = entry
        if not is_integer(height) or not _is_standing(rule, standing) or standing in heights:
            return None
        heights[standing] = height
    return heights


def _is_standing(rule, value):
    """Whether any value has the form of a standing of a rule."""
    if not isinstance(value, tuple) or len(value) == 0:
        return False
    kind, *rest = value
    if kind == "in" and len(rest) == 3:
        return _is_window(rule, rest[0]) and _is_calm(rule, rest[1], rest[2])
    if kind == "out" and len(rest) == 2:
        return is_between(rest[0], 1, rule.time(rule.cap)) and is_between(rest[1], 1, rule.cap)
    if kind == "trial" and len(rest) == 1:
        return is_between(rest[0], 1, rule.cap)
    return False


def _is_window(rule, value):
    """Whether any value has the form of the window of a standing."""
    if not isinstance(value, tuple) or len(value) > rule.of:
        return False
    return all([isinstance(answer, bool) for answer in value])


def _is_calm(rule, times, calm):
    """Whether any two values can be the times and the calm of a standing."""
    if not is_between(times, 0, rule.cap):
        return False
    return is_between(calm, 0, max(0, rule.calm - 1) if times != 0 else 0)


def _goes_down(rule, what, share, heights, standing, alphabet):
    """Whether each letter leads from a standing to one that is lower by enough."""
    counted, turns = share
    for letter in alphabet:
        behind, brought = step(rule, standing, letter)
        if behind not in heights:
            return False
        drop = (turns if brought == what else 0) - (0 if brought == "told" else counted)
        if heights[standing] - heights[behind] < drop:
            return False
    return True
