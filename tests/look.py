"""A look of the tests' own at what a rule does: plain and slow, and apart from the package.

A server is kept here as its history since it came in, and a road as the whole of what is known of it.
"""

from fractions import Fraction
from functools import lru_cache
from math import ceil, floor


def limit(rule, n):
    return share_of(n, rule.top, rule.under, rule.up)


@lru_cache(None)
def share_of(n, top, under, up):
    share = Fraction(n * top, under)
    return ceil(share) if up else floor(share)


def times_of(rule):
    """The times for which a server sits out, up to the one that stays."""
    row = [rule.base]
    while min(row[-1] + rule.more, rule.most) != row[-1]:
        row.append(min(row[-1] + rule.more, rule.most))
    return row


def came_in(rule):
    """The window of a server that has come back without a trial."""
    return {"open": "", "half": "x" * [None, 0, 1, 1, 2, 2, 3][rule.need]}[rule.back]


def forms(rule):
    """All that has the form of a standing of a rule."""
    times = times_of(rule)
    windows = [()]
    for many in range(1, rule.of + 1):
        windows += [tuple(bit == "1" for bit in format(bits, f"0{many}b")) for bits in range(2 ** many)]
    found = []
    for count in range(len(times) + 1):
        for calm in range(max(rule.calm, 1) if count else 1):
            found += [("in", window, count, calm) for window in windows]
    for count in range(1, len(times) + 1):
        found += [("out", left, count) for left in range(1, max(times) + 1)] + [("trial", count)]
    return found


def change(rule, standing, word, room):
    """(standing behind, what, whether it was tried, whether it was kept) for "ok", "fault" or "told"."""
    place = standing[0]
    if place == "out":
        if word == "told":
            return standing, "told", False, False
        left, count = standing[1] - 1, standing[2]
        what = {"ok": "missed", "fault": "skip"}[word]
        if left == 0:
            back = ("trial", count) if rule.back == "trial" else arrive(came_in(rule), count)
            return back, what, False, False
        return ("out", left, count), what, False, False
    if place == "trial":
        if word == "told":
            return standing, "told", False, False
        if word == "ok":
            return arrive("", standing[1]), "ok", False, False
        return leave(rule, standing[1]), "felt", False, False
    what = {"ok": "ok", "fault": "felt", "told": "told"}[word]
    _, window, count, calm = standing
    answers = "".join("x" if fault else "o" for fault in window)
    if word == "told" and rule.hears == "no":
        return standing, what, False, False
    if word == "ok":
        answers, calm = answers + "o", calm + 1
        if calm == rule.calm:
            count = 0
        if count == 0 or rule.calm == 0:
            calm = 0
        return arrive(answers[-rule.of:], count, calm), what, False, False
    at_once = word == "told" and rule.hears == "out"
    if not at_once:
        answers, calm = (answers + "x")[-rule.of:], 0
    if not at_once and answers.count("x") < rule.need:
        return arrive(answers, count, calm), what, False, False
    if room:
        return leave(rule, count), what, True, False
    return arrive(answers, count, calm), what, True, True


def arrive(answers, count, calm=0):
    return ("in", tuple(answer == "x" for answer in answers), count, calm)


def leave(rule, count):
    times = times_of(rule)
    count = min(count + 1, len(times))
    return ("out", times[count - 1], count)


def look_step(rule, standing, letter):
    word, _, full = letter.partition(" ")
    room = {0: False, rule.under: True}.get(rule.top, full == "")
    return change(rule, standing, word, room)[:2]


def look_standings(rule, alphabet):
    found, ahead = {("in", (), 0, 0)}, [("in", (), 0, 0)]
    while ahead:
        ahead = sorted({look_step(rule, one, letter)[0] for one in ahead for letter in alphabet} - found)
        found |= set(ahead)
    return found


def opened(callers, servers):
    """For each caller, for each server: its standing, whether it was ever out, whether its last turn was missed."""
    return (((("in", (), 0, 0), False, False),) * servers,) * callers


def go(rule, state, event):
    """(state behind, goals, what it was) of an event, or None if it is not possible."""
    words = event.split()
    c, s = int(words[1]), int(words[3] if words[0] == "told" else words[2])
    if words[0] == "told" and not state[int(words[2])][s][1]:
        return None
    row = state[c]
    busy = sum(one[0][0] in ("out", "trial") for one in row)
    word = "told" if words[0] == "told" else words[3]
    behind, what, _, kept = change(rule, row[s][0], word, busy < limit(rule, len(row)))
    ever = row[s][1] or behind[0] == "out"
    missed = row[s][2] if what == "told" else what == "missed"
    after = row[:s] + ((behind, ever, missed),) + row[s + 1:]
    goals = set()
    if all(one[0][0] == "out" for one in after):
        goals.add("all")
    if kept:
        goals.add("kept")
        if any(one[2] and one[0][0] in ("out", "trial") for at, one in enumerate(row) if at != s):
            goals.add("swap")
    return state[:c] + (after,) + state[c + 1:], goals, what


def look_play(rule, road):
    """All that is told of a road, or the number of the event that is not possible."""
    state = opened(road.callers, road.servers)
    felt, missed = {}, {}
    met = []
    for at, event in enumerate(road.events):
        gone = go(rule, state, event)
        if gone is None:
            return at
        state, goals, what = gone
        met += [(at, goal) for goal in sorted(goals)]
        if what in ("felt", "missed"):
            counts, pair = {"felt": felt, "missed": missed}[what], tuple(event.split()[1:3])
            counts[pair] = counts.get(pair, 0) + 1
    return {
        "standings": tuple(tuple(one[0] for one in row) for row in state),
        "felt": table(felt, road),
        "missed": table(missed, road),
        "outs": tuple(len([one for one in row if one[0][0] != "in"]) for row in state),
        "met": tuple(met),
    }


def table(counts, road):
    return tuple(
        tuple(counts.get((str(c), str(s)), 0) for s in range(road.servers)) for c in range(road.callers)
    )


def events_of(callers, servers):
    """All events that so many callers and servers can have."""
    turns = [f"turn {c} {s} {word}" for c in range(callers) for s in range(servers) for word in ("ok", "fault")]
    pairs = [(c, d) for c in range(callers) for d in range(callers) if c != d]
    return turns + [f"told {c} {d} {s}" for c, d in pairs for s in range(servers)]


def reached(rule, callers, servers):
    """The goals that some road with so many callers and servers meets: all roads are searched through."""
    events = events_of(callers, servers)
    found, seen = set(), {opened(callers, servers)}
    waiting = list(seen)
    while waiting and len(found) < 3:
        state = waiting.pop()
        for event in events:
            gone = go(rule, state, event)
            if gone is not None:
                found |= gone[1]
                if gone[0] not in seen:
                    seen.add(gone[0])
                    waiting.append(gone[0])
    return found
