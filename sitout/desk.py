"""Desks: commands in words, and their answers."""

from sitout.basics import read_number
from sitout.climbing import WHATS
from sitout.deciding import numbers
from sitout.errors import InvalidCommand
from sitout.live import Live
from sitout.plays import GOALS
from sitout.rates import worst
from sitout.rules import Rule


class Desk:
    """A rule and a live thing, of which commands make and ask something."""

    def __init__(self):
        self.own_rule = None
        self.live = None

    def say(self, command):
        """Does a command; returns its answer."""
        word, rest = _read(command)
        if not self.can(word, rest):
            raise InvalidCommand()
        if word == "rule":
            return self.keep(" ".join(rest))
        if word == "begin":
            return self.begin(int(rest[0]), int(rest[1]))
        if word == "do":
            return " ".join(self.live.do(" ".join(rest))) or "-"
        if word == "show":
            return _standing_text(self.live.played.standings[int(rest[0])][int(rest[1])])
        if word == "worst":
            counted, turns = worst(self.own_rule, rest[0])
            return f"{counted}/{turns}"
        if word == "numbers":
            return _numbers_text(numbers(self.own_rule, rest[0]))
        return "undone" if self.live.undo() else "nothing"

    def can(self, word, rest):
        """Whether there is what a command of a right form asks for."""
        if word == "rule":
            return True
        if self.own_rule is None:
            return False
        if word in ("do", "show", "undo") and self.live is None:
            return False
        if word == "show":
            road = self.live.road
            return int(rest[0]) < road.callers and int(rest[1]) < road.servers
        return True

    def keep(self, text):
        """Keeps the rule with a text; returns the text of its cap."""
        rule = Rule.read(text)
        if self.live is not None:
            self.live.change(rule)
        self.own_rule = rule
        return str(rule.cap)

    def begin(self, callers, servers):
        """Begins a new live thing; returns the text of the limit of its servers."""
        self.live = Live(self.own_rule, callers, servers)
        return str(self.own_rule.limit(servers))


def _read(command):
    """The first word and the further ones of any value that has the form of a command."""
    if not isinstance(command, str) or "\n" in command:
        raise InvalidCommand()
    words = command.split(" ")
    if "" in words or not _has_form(words[0], words[1:]):
        raise InvalidCommand()
    return words[0], words[1:]


def _has_form(word, rest):
    """Whether such words can stand behind the first word of a command."""
    if word in ("rule", "do"):
        return len(rest) > 0
    if word in ("begin", "show"):
        return len(rest) == 2 and None not in [read_number(one) for one in rest]
    if word == "worst":
        return len(rest) == 1 and rest[0] in WHATS
    if word == "numbers":
        return len(rest) == 1 and rest[0] in GOALS
    return word == "undo" and len(rest) == 0


def _standing_text(standing):
    """The text of a standing."""
    kind, *rest = standing
    if kind == "in":
        window, times, calm = rest
        answers = "".join(["x" if fault else "o" for fault in window]) or "-"
        return f"in {answers} {times} {calm}"
    return " ".join([kind] + [str(number) for number in rest])


def _numbers_text(found):
    """The text of the least and the greatest number of servers."""
    if found is None:
        return "never"
    least, greatest = found
    if greatest is None:
        return f"{least} on"
    return f"{least} to {greatest}"
