"""Climbing: heights from which each letter leads down by enough, or a round of letters that forbids them."""

from sitout.errors import InvalidWhat

WHATS = ("felt", "missed")


def check_what(what):
    """Raises an error for any value that is no word for what is counted."""
    if what not in WHATS:
        raise InvalidWhat()


def weighed(machine, what, share):
    """The moves of a machine, (letter, number behind, weight): a round weighs more than 0 if its share is greater."""
    counted, turns = share
    weights = {"felt": -counted, "missed": -counted, "ok": -counted, "skip": -counted, "told": 0}
    weights[what] = turns - counted
    return [
        [(letter, behind, weights[brought]) for letter, (behind, brought) in zip(machine.alphabet, row)]
        for row in machine.moves
    ]


def climb(moves):
    """Heights, one for each number, from which each move goes down by its weight at least, and None.

    If there are none, then None and a round of moves that weighs more than 0: (its first number, its letters).
    """
    heights = [0] * len(moves)
    best = [None] * len(moves)
    changed = True
    while changed:
        changed = False
        # The later ones first: most moves lead to a later one.
        for at in reversed(range(len(moves))):
            for letter, behind, weight in moves[at]:
                if heights[behind] + weight > heights[at]:
                    heights[at] = heights[behind] + weight
                    best[at] = (letter, behind)
                    changed = True
        # A ring of best moves weighs more than 0: the last one of them has raised a height that it rests on.
        ring = _ring(best)
        if ring is not None:
            return None, ring
    return heights, None


def _ring(best):
    """The first number and the letters of a ring of best moves, or None if there is none."""
    come_from = [None] * len(best)
    for start in range(len(best)):
        at = start
        while best[at] is not None and come_from[at] is None:
            come_from[at] = start
            at = best[at][1]
        if come_from[at] == start:
            return at, _around(best, at)
    return None


def _around(best, first):
    """The letters of the ring of best moves from a number to itself."""
    row = []
    at = first
    while not row or at != first:
        letter, at = best[at]
        row.append(letter)
    return tuple(row)
