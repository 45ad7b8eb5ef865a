"""A look of the tests' own at what comes in the long run: plain and slow, and apart from the package.

It rests on tests/look.py alone. Words are taken away here by turns that come behind any words.
"""

from fractions import Fraction
from functools import lru_cache
from itertools import product

from sitout.rules import Rule
from tests import look

LETTERS = {
    (): ("fault", "ok"),
    ("full",): ("fault", "fault full", "ok"),
    ("told",): ("fault", "ok", "told"),
    ("full", "told"): ("fault", "fault full", "ok", "told", "told full"),
}
FREES = tuple(LETTERS)
WHATS = ("felt", "missed")
BEGUN = ("in", (), 0, 0)


def some_rules(stride=1, start=0):
    """Rules of all sorts within the limits of the long run, or each so-manieth of them."""
    counts = ((1, 1), (1, 2), (2, 2), (2, 3), (3, 3), (1, 3))
    paces = ((1, 0, 1, 0), (2, 0, 2, 2), (1, 1, 3, 0), (1, 1, 3, 2), (2, 2, 5, 1), (3, 0, 3, 3), (1, 2, 6, 3))
    shares = ((1, 2), (1, 3), (0, 1), (2, 5), (1, 1), (3, 4), (0, 2), (19, 20), (2, 2))
    found = []
    for (need, of), (base, more, most, calm) in product(counts, paces):
        for back, hears in product(("open", "half", "trial"), ("fault", "no", "out")):
            at = len(found)
            top, under = shares[(at * 4 + at // 9 * 2 + need) % 9]
            up = at % 2 == 0
            found.append(Rule(need, of, base, more, most, calm, back, top, under, up, hears))
    return found[start::stride]


def heard(rule, standing, alphabet):
    """The standings that words lead to from one, this one among them."""
    found, waiting = [standing], [standing]
    while waiting:
        at = waiting.pop()
        for letter in alphabet:
            if letter.startswith("told"):
                behind = look.look_step(rule, at, letter)[0]
                if behind not in found:
                    found.append(behind)
                    waiting.append(behind)
    return found


def turns(rule, free):
    """For each standing that comes, as a number: the pairs (number behind, what) of a turn behind any words."""
    alphabet = LETTERS[free]
    places = sorted(look.look_standings(rule, alphabet))
    number = {standing: at for at, standing in enumerate(places)}
    rows = []
    for standing in places:
        found = set()
        for one in heard(rule, standing, alphabet):
            for letter in alphabet:
                if not letter.startswith("told"):
                    behind, what = look.look_step(rule, one, letter)
                    found.add((number[behind], what))
        rows.append(sorted(found))
    return rows


def look_worst(rows, what):
    """The worst share as a Fraction: the greatest mean of a round of turns, by Karp's way."""
    many = len(rows)
    edges = [(at, behind, int(brought == what)) for at, row in enumerate(rows) for behind, brought in row]
    table = [[0] * many]
    for _ in range(many):
        best = [None] * many
        for at, behind, gain in edges:
            ahead = table[-1][at]
            if ahead is not None and (best[behind] is None or ahead + gain > best[behind]):
                best[behind] = ahead + gain
        table.append(best)
    means = []
    for at in range(many):
        last = table[many][at]
        if last is not None:
            ends = [(last - table[k][at], many - k) for k in range(many) if table[k][at] is not None]
            means.append(min(Fraction(gain, length) for gain, length in ends))
    return max(means)


def look_longest(rows, what):
    """The greatest number of counted turns behind one another, or None."""
    now, many = set(range(len(rows))), 0
    while True:
        now = {behind for at in now for behind, brought in rows[at] if brought == what}
        if not now:
            return many
        many += 1
        if many > len(rows):
            return None


def look_sick(rule):
    """The share that is felt if each letter is a fault, as a Fraction."""
    standing, row, places = BEGUN, [], []
    while standing not in places:
        places.append(standing)
        standing, what = look.look_step(rule, standing, "fault")
        row.append(what == "felt")
    again = row[places.index(standing):]
    return Fraction(sum(again), len(again))


def read(rule, row, standing=BEGUN):
    """The standing behind a row of letters, and what each of them was."""
    whats = []
    for letter in row:
        standing, what = look.look_step(rule, standing, letter)
        whats.append(what)
    return standing, whats


@lru_cache(None)
def form_texts(text):
    """What has the form of a standing of the rule with a text, written out: so True is not 1."""
    return {repr(one) for one in look.forms(Rule.read(text))}


def look_right(rule, what, share, value, free):
    """Whether a value is a right paper."""
    forms = form_texts(str(rule))
    if not isinstance(value, tuple):
        return False
    for entry in value:
        if not isinstance(entry, tuple) or len(entry) != 2 or type(entry[1]) is not int or repr(entry[0]) not in forms:
            return False
    heights = {repr(standing): height for standing, height in value}
    if len(heights) != len(value) or repr(BEGUN) not in heights:
        return False
    for standing, height in value:
        for letter in LETTERS[free]:
            behind, brought = look.look_step(rule, standing, letter)
            if repr(behind) not in heights:
                return False
            if height - heights[repr(behind)] < drop(what, share, brought):
                return False
    return True


def drop(what, share, brought):
    """By how much a letter that was this goes down by a paper at least."""
    a, b = share
    return {True: b, False: 0}[brought == what] - {True: 0, False: a}[brought == "told"]


def further_heights(rule, what, share, value, free, standings):
    """The heights of a right paper with further standings, and all that come from them, put in."""
    heights = dict(value)
    moves = {}
    waiting = list(standings)
    while waiting:
        standing = waiting.pop()
        if standing not in heights and standing not in moves:
            steps = [look.look_step(rule, standing, letter) for letter in LETTERS[free]]
            moves[standing] = [(behind, drop(what, share, brought)) for behind, brought in steps]
            waiting += [behind for behind, _ in moves[standing]]
    heights.update({standing: -(10 ** 6) for standing in moves})
    for _ in range(len(moves) + 1):
        before = dict(heights)
        for standing, row in moves.items():
            heights[standing] = max([heights[standing]] + [heights[behind] + least for behind, least in row])
        if heights == before:
            break
    return tuple(heights.items())


def look_parting(p, q, free, parts):
    """The length of a shortest row at whose last letter two rules part, or None."""
    now, seen, many = {(BEGUN, BEGUN)}, set(), 1
    while now:
        if any(parts(first[0] == "out", second[0] == "out") for first, second in now):
            return many
        seen |= now
        now = {
            (look.look_step(p, first, letter)[0], look.look_step(q, second, letter)[0])
            for first, second in now for letter in LETTERS[free]
        } - seen
        many += 1
    return None


def differ(first, second):
    return first is not second


def only_second(first, second):
    return second and not first


def all_seen(rule, free, many):
    """All rows of up to so many sights that rows of letters bring."""
    found = {(): {BEGUN}}
    now = dict(found)
    for _ in range(many):
        further = {}
        for seen, places in now.items():
            for standing in {one for place in places for one in heard(rule, place, LETTERS[free])}:
                for letter in LETTERS[free]:
                    if not letter.startswith("told"):
                        behind, _ = look.look_step(rule, standing, letter)
                        sight = "skip" if standing[0] == "out" else letter.split()[0]
                        further.setdefault((*seen, sight), set()).add(behind)
        found.update(further)
        now = further
    return set(found)


def look_misfit(rule, seen, free):
    """The number of the first thing seen that no row of letters brings there, or None."""
    places = {BEGUN}
    for at, sight in enumerate(seen):
        further = set()
        for standing in {one for place in places for one in heard(rule, place, LETTERS[free])}:
            for letter in LETTERS[free]:
                if not letter.startswith("told") and sight == ("skip" if standing[0] == "out" else letter.split()[0]):
                    further.add(look.look_step(rule, standing, letter)[0])
        if not further:
            return at
        places = further
    return None
