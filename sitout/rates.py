"""Rates: which share of the turns of a server is felt or missed in the long run."""

from math import gcd

from sitout.climbing import check_what, climb, weighed
from sitout.machines import Machine
from sitout.standings import begun, step


def worst(rule, what, free=()):
    """The greatest share of turns that are felt or missed, of all rows of letters that go on for ever."""
    check_what(what)
    share, _ = _worst_ring(Machine(rule, free), what)
    return share


def sick(rule):
    """The share of turns that are felt if each letter is a fault."""
    counts = {}
    standing = begun()
    turns = 0
    felt = 0
    while standing not in counts:
        counts[standing] = (turns, felt)
        standing, what = step(rule, standing, "fault")
        turns += 1
        if what == "felt":
            felt += 1
    turns_ahead, felt_ahead = counts[standing]
    return _lowest(felt - felt_ahead, turns - turns_ahead)


def round_of(rule, what, free=()):
    """Letters that lead to a standing, and letters from there to it again of which just the worst share counts."""
    check_what(what)
    machine = Machine(rule, free)
    _, ring = _worst_ring(machine, what)
    if ring is None:
        # No turn is ever counted, so any round will do: a full window of answers ok stays as it is.
        return ("ok",) * rule.of, ("ok",)
    first, row = ring
    return machine.way(first), row


def longest(rule, what, free=()):
    """The greatest number of turns behind one another that are all felt or missed, or None if there is none."""
    check_what(what)
    machine = Machine(rule, free)
    lengths = {what: 1, "told": 0}
    moves = [
        [(letter, behind, lengths[brought]) for letter, (behind, brought) in zip(machine.alphabet, row)
         if brought in lengths]
        for row in machine.moves
    ]
    heights, ring = climb(moves)
    return None if ring is not None else max(heights)


def _worst_ring(machine, what):
    """The worst share of a machine, and a round with it (None if no turn is ever counted)."""
    share = (0, 1)
    worst_ring = None
    _, ring = climb(weighed(machine, what, share))
    while ring is not None:
        worst_ring = ring
        share = _share_of(machine, what, ring)
        _, ring = climb(weighed(machine, what, share))
    return share, worst_ring


def _share_of(machine, what, ring):
    """The share of the turns of a round that are counted."""
    at, row = ring
    turns = 0
    counted = 0
    for letter in row:
        at, brought = machine.after(at, letter)
        if brought != "told":
            turns += 1
        if brought == what:
            counted += 1
    return _lowest(counted, turns)


def _lowest(counted, turns):
    """The share in lowest terms."""
    common = gcd(counted, turns)
    return counted // common, turns // common
