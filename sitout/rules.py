"""Rules: when a server is left out, for how long, and how it comes back."""

from sitout.basics import is_from, part_of, read_number
from sitout.errors import InvalidRule, InvalidText

_BACKS = ("half", "open", "trial")
_HEARINGS = ("fault", "no", "out")
_SIDES = ("down", "up")

# The words of a text. None stands where they differ from rule to rule.
_FORM = (
    "leave", None, "of", None, "out", None, "more", None, "most", None, "calm", None,
    "back", None, "share", None, None, "hears", None,
)


class Rule:
    """A rule by which a caller leaves servers out."""

    def __init__(self, need, of, base, more, most, calm, back, top, under, up, hears):
        word = _wrong_count(need, of, base, more, most, calm)
        if word is None:
            word = _wrong_manner(back, top, under, up, hears)
        if word is not None:
            raise InvalidRule(word)
        self.need = need
        self.of = of
        self.base = base
        self.more = more
        self.most = most
        self.calm = calm
        self.back = back
        self.top = top
        self.under = under
        self.up = up
        self.hears = hears
        self.cap = _least_last(base, more, most)

    def __eq__(self, other):
        return isinstance(other, Rule) and str(self) == str(other)

    def __str__(self):
        return " ".join([
            f"leave {self.need} of {self.of}",
            f"out {self.base} more {self.more} most {self.most}",
            f"calm {self.calm} back {self.back}",
            f"share {self.top}/{self.under} {_side(self.up)}",
            f"hears {self.hears}",
        ])

    @classmethod
    def read(cls, text):
        """The rule with a text."""
        words = _free_words(text)
        if words is None:
            raise InvalidText(0)
        back, share, side, hears = words[6:]
        numbers = [read_number(word) for word in words[:6] + share.split("/")]
        if len(numbers) != 8 or None in numbers:
            raise InvalidText(0)
        if back not in _BACKS or side not in _SIDES or hears not in _HEARINGS:
            raise InvalidText(0)
        need, of, base, more, most, calm, top, under = numbers
        return cls(need, of, base, more, most, calm, back, top, under, side == "up", hears)

    def time(self, j):
        """The number of turns for which a server sits out the j-th time (j from 1 on)."""
        return min(self.base + self.more * (j - 1), self.most)

    def limit(self, n):
        """The number of servers that may be left out of n at once."""
        return part_of(n, self.top, self.under, self.up)


def _wrong_count(need, of, base, more, most, calm):
    """The name of the first of these arguments that is wrong, or None."""
    if not is_from(need, 1):
        return "need"
    if not is_from(of, need):
        return "of"
    if not is_from(base, 1):
        return "base"
    if not is_from(more, 0):
        return "more"
    if not is_from(most, base):
        return "most"
    if not is_from(calm, 0):
        return "calm"
    return None


def _wrong_manner(back, top, under, up, hears):
    """The name of the first of these arguments that is wrong, or None."""
    if back not in _BACKS:
        return "back"
    if not is_from(top, 0):
        return "top"
    if not is_from(under, max(1, top)):
        return "under"
    if not isinstance(up, bool):
        return "up"
    if hears not in _HEARINGS:
        return "hears"
    return None


def _least_last(base, more, most):
    """The least j from 1 on whose time is that of j + 1, too."""
    if more == 0:
        return 1
    return 1 + (most - base + more - 1) // more


def _side(up):
    """The word of a text for the way in which a share is rounded."""
    return "up" if up else "down"


def _free_words(text):
    """The words that differ from rule to rule, or None if the others are not as they must be."""
    words = text.split(" ")
    if len(words) != len(_FORM):
        return None
    free = []
    for word, fixed in zip(words, _FORM):
        if fixed is None:
            free.append(word)
        elif word != fixed:
            return None
    return free
