"""Deciding: with which numbers of servers a goal can be met, and on which road."""

from sitout.errors import InvalidGoal
from sitout.plays import GOALS
from sitout.roads import Road
from sitout.standings import begun, letters, step

# The events by which the letters come to the first server of the first of two callers.
_EVENTS = {"fault": "turn 0 0 fault", "ok": "turn 0 0 ok", "told": "told 0 1 0"}


def numbers(rule, goal):
    """The least and the greatest number of servers with which a road meets a goal, or None."""
    if goal not in GOALS:
        raise InvalidGoal()
    if goal == "all":
        return _numbers_for_all(rule)
    # With as many places as servers there is always room, and nobody is kept.
    if rule.top == rule.under:
        return None
    if goal == "kept":
        return _most_all_out(rule) + 1, None
    # With no place at all nobody is ever out, so there is no such row either.
    if _row_to_miss(rule) is None:
        return None
    return _least_with_some_out(rule), None


def happens(rule, goal):
    """Whether some road meets a goal."""
    return numbers(rule, goal) is not None


def road(rule, goal):
    """Some road with the least number of servers that meets a goal by its last event, or None."""
    found = numbers(rule, goal)
    if found is None:
        return None
    servers = found[0]
    if goal == "all":
        return Road(1, servers, _faults(rule, 0, 0, servers))
    last = rule.limit(servers)
    if goal == "kept":
        return Road(1, servers, _faults(rule, 0, 0, last + 1))
    row = _row_to_miss(rule)
    events = [_EVENTS[letter] for letter in row] + _faults(rule, 0, 1, last + 1)
    if "told" not in row:
        return Road(1, servers, events)
    # The second caller has to have left the server out before its word can come.
    return Road(2, servers, _faults(rule, 1, 0, 1) + events)


def _numbers_for_all(rule):
    """The least and the greatest number of servers of which all can be out, or None."""
    if rule.top == rule.under:
        return 1, None
    most = _most_all_out(rule)
    return (1, most) if most > 0 else None


def _most_all_out(rule):
    """The greatest number of servers that may all be left out at once, 0 if none (top is below under)."""
    if not rule.up:
        return 0
    # Rounded up, n * top / under is n as long as less than 1 is lacking: n * (under - top) < under.
    return (rule.under - 1) // (rule.under - rule.top)


def _least_with_some_out(rule):
    """The least number of servers of which one may be left out, but not all (top is from 1 on, below under)."""
    if rule.up:
        return _most_all_out(rule) + 1
    return (rule.under + rule.top - 1) // rule.top


def _row_to_miss(rule):
    """Letters behind which a server is out or on trial and its last turn was missed, or None."""
    start = (begun(), False)
    rows = {start: ()}
    waiting = [start]
    at = 0
    while at < len(waiting):
        state = waiting[at]
        at += 1
        standing, missed = state
        if missed and standing[0] != "in":
            return rows[state]
        for letter in letters(["told"]):
            behind, what = step(rule, standing, letter)
            further = (behind, missed if what == "told" else what == "missed")
            if further not in rows:
                rows[further] = (*rows[state], letter)
                waiting.append(further)
    return None


def _faults(rule, caller, first, end):
    """Events by which each server from first on and below end is tried once."""
    return [f"turn {caller} {server} fault" for server in range(first, end) for _ in range(rule.need)]
