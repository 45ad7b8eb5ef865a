"""Mending: which rules near to one, and which shares, do no more harm than is told."""

from sitout.basics import part_of
from sitout.climbing import check_what
from sitout.errors import InvalidRule
from sitout.papers import paper
from sitout.rules import Rule


def mends(rule, what, share, free=()):
    """The texts of the rules near to this one whose worst share is not above a told one, ascending."""
    check_what(what)
    return tuple(sorted([str(near) for near in _near(rule) if paper(near, what, share, free) is not None]))


def safe_top(under, up, spare, start):
    """The greatest top with which so many of every number of servers from start on are never left out, or None."""
    # More servers never have fewer that are not left out, as top is at most under: only start matters.
    for top in range(under, -1, -1):
        if start - part_of(start, top, under, up) >= spare:
            return top
    return None


def _near(rule):
    """The rules that differ from one by 1 in just one of its first six numbers."""
    counts = [rule.need, rule.of, rule.base, rule.more, rule.most, rule.calm]
    found = []
    for at, count in enumerate(counts):
        for changed in (count - 1, count + 1):
            row = counts[:at] + [changed] + counts[at + 1:]
            try:
                found.append(Rule(*row, rule.back, rule.top, rule.under, rule.up, rule.hears))
            except InvalidRule:
                pass
    return found
