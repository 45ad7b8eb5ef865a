"""Standings: how a server stands with a caller, and what each letter makes of this."""


def begun():
    """The standing with which every server begins."""
    return ("in", (), 0, 0)


def letters(free=()):
    """The letters that there are, ascending."""
    found = ["fault", "ok"]
    if "told" in free:
        found.append("told")
    if "full" in free:
        found = found + [letter + " full" for letter in found if letter != "ok"]
    return tuple(sorted(found))


def standings(rule, free=()):
    """All standings that can come from the one with which a server begins, ascending."""
    return tuple(sorted(list(steps(rule, free))))


def steps(rule, free):
    """For each standing that can come, the first one ahead, what each letter brings there, in their order."""
    alphabet = letters(free)
    found = {begun(): ()}
    waiting = [begun()]
    while waiting:
        standing = waiting.pop()
        row = tuple([step(rule, standing, letter) for letter in alphabet])
        found[standing] = row
        for behind, _ in row:
            if behind not in found:
                found[behind] = ()
                waiting.append(behind)
    return found


def step(rule, standing, letter):
    """The standing behind a letter, and what the letter was."""
    word = letter.split(" ")[0]
    full = word != letter
    room = rule.top == rule.under or (rule.top > 0 and not full)
    behind, what, _ = move(rule, standing, word, room)
    return behind, what


def move(rule, standing, word, room):
    """The standing behind a word ("ok", "fault" or "told"), what it was, and whether the server was kept."""
    if word == "told":
        behind, kept = _hear(rule, standing, room)
        return behind, "told", kept
    if standing[0] == "out":
        what = "missed" if word == "ok" else "skip"
        return _sit(rule, standing), what, False
    if word == "ok":
        return _take_ok(rule, standing), "ok", False
    if standing[0] == "trial":
        # It counts as left out already, so it needs no room.
        return _leave_out(rule, standing[1]), "felt", False
    behind, kept = _take_fault(rule, standing, room)
    return behind, "felt", kept


def _hear(rule, standing, room):
    """The standing behind a word of another caller, and whether the server was kept."""
    if standing[0] != "in" or rule.hears == "no":
        return standing, False
    if rule.hears == "fault":
        return _take_fault(rule, standing, room)
    return _try(rule, standing, room)


def _sit(rule, standing):
    """The standing behind a turn of a server that is out."""
    _, left, times = standing
    if left > 1:
        return ("out", left - 1, times)
    if rule.back == "trial":
        return ("trial", times)
    counted = rule.need - (rule.need + 1) // 2 if rule.back == "half" else 0
    return ("in", (True,) * counted, times, 0)


def _take_ok(rule, standing):
    """The standing behind an answer ok of a server that is in or on trial."""
    if standing[0] == "trial":
        return ("in", (), standing[1], 0)
    _, window, times, calm = standing
    taken = _taken(rule, window, False)
    if times == 0 or rule.calm == 0:
        return ("in", taken, times, 0)
    if calm + 1 == rule.calm:
        return ("in", taken, 0, 0)
    return ("in", taken, times, calm + 1)


def _take_fault(rule, standing, room):
    """The standing behind a fault of a server that is in, and whether it was kept."""
    _, window, times, _ = standing
    taken = _taken(rule, window, True)
    behind = ("in", taken, times, 0)
    if taken.count(True) < rule.need:
        return behind, False
    return _try(rule, behind, room)


def _try(rule, standing, room):
    """The standing behind a try to leave out a server that is in, and whether it was kept."""
    if not room:
        return standing, True
    return _leave_out(rule, standing[2]), False


def _leave_out(rule, times):
    """The standing of a server that is left out once more than so many times."""
    counted = min(times + 1, rule.cap)
    return ("out", rule.time(counted), counted)


def _taken(rule, window, fault):
    """The window with one more answer."""
    return (*window, fault)[-rule.of:]
