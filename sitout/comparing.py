"""Comparing: whether two rules call and skip at the same turns."""

from sitout.machines import Machine


def alike(p, q, free=()):
    """Whether at each turn both rules call, or both skip."""
    return parting(p, q, free) is None


def parting(p, q, free=()):
    """Some shortest row of letters at whose last one the one rule calls and the other one skips, or None."""
    return _shortest(p, q, free, lambda p_skips, q_skips: p_skips != q_skips)


def covers(p, q, free=()):
    """Whether the rule p skips at each turn at which q does."""
    return uncovered(p, q, free) is None


def uncovered(p, q, free=()):
    """Some shortest row of letters at whose last one the rule q skips and p calls, or None."""
    return _shortest(p, q, free, lambda p_skips, q_skips: q_skips and not p_skips)


def _shortest(p, q, free, parts):
    """Some shortest row of letters at whose last one two rules part as it is asked, or None."""
    first, second = Machine(p, free), Machine(q, free)
    first_skips, second_skips = _skips(first), _skips(second)
    many = len(second.places)
    # A pair of numbers is kept as one number. By each pair stands the one ahead, and the letter between.
    ahead = {0: None}
    waiting = [0]
    done = 0
    while done < len(waiting):
        pair = waiting[done]
        done += 1
        at, beside = pair // many, pair % many
        if parts(first_skips[at], second_skips[beside]):
            # Whether a turn is skipped lies in the standing alone, so any turn will do.
            row = _row(ahead, pair, first.alphabet)
            return (*row, "ok")
        for place, ((behind, _), (other, _)) in enumerate(zip(first.moves[at], second.moves[beside])):
            further = behind * many + other
            if further not in ahead:
                ahead[further] = (pair, place)
                waiting.append(further)
    return None


def _skips(machine):
    """For each number whether a turn is skipped there."""
    return [standing[0] == "out" for standing in machine.places]


def _row(ahead, pair, alphabet):
    """The letters by which a pair was reached."""
    backwards = []
    while ahead[pair] is not None:
        pair, place = ahead[pair]
        backwards.append(alphabet[place])
    return tuple(backwards[::-1])
