"""Plays: what happens on a road by a rule."""

from sitout.errors import Refused
from sitout.standings import begun, move

GOALS = ("all", "kept", "swap")


class Played:
    """What a road has come to."""

    def __init__(self, standings, felt, missed, outs, met):
        self.standings = standings
        self.felt = felt
        self.missed = missed
        self.outs = outs
        self.met = met


class Caller:
    """One caller of a road with its servers, as they are now."""

    def __init__(self, rule, servers):
        self.kept_rule = rule
        self.places = rule.limit(servers)
        self.now = [begun()] * servers
        self.felt_turns = [0] * servers
        self.missed_turns = [0] * servers
        self.missed_last = [False] * servers
        self.ever_out = [False] * servers

    def away(self):
        """How many servers are out or on trial."""
        return len([standing for standing in self.now if standing[0] != "in"])

    def take(self, server, word):
        """Lets a turn or a word come for a server; returns the goals that this meets, ascending."""
        room = self.away() < self.places
        behind, what, kept = move(self.kept_rule, self.now[server], word, room)
        self.now[server] = behind
        if behind[0] == "out":
            self.ever_out[server] = True
        if what != "told":
            self.missed_last[server] = what == "missed"
        if what == "felt":
            self.felt_turns[server] += 1
        if what == "missed":
            self.missed_turns[server] += 1
        return self.reached(kept)

    def reached(self, kept):
        """The goals that are met now, ascending, if a server was kept or not."""
        if kept:
            return ["kept", "swap"] if self.misses() else ["kept"]
        return ["all"] if all([standing[0] == "out" for standing in self.now]) else []

    def misses(self):
        """Whether a server is out or on trial whose last turn was missed."""
        return any([missed and standing[0] != "in" for standing, missed in zip(self.now, self.missed_last)])


def play(rule, road):
    """What a road comes to by a rule."""
    callers = [Caller(rule, road.servers) for _ in range(road.callers)]
    met = []
    for at, event in enumerate(road.events):
        kind, first, second, last = event.split(" ")
        caller = callers[int(first)]
        if kind == "turn":
            goals = caller.take(int(second), last)
        elif callers[int(second)].ever_out[int(last)]:
            goals = caller.take(int(last), "told")
        else:
            raise Refused(at)
        met.extend([(at, goal) for goal in goals])
    return Played(
        tuple([tuple(caller.now) for caller in callers]),
        tuple([tuple(caller.felt_turns) for caller in callers]),
        tuple([tuple(caller.missed_turns) for caller in callers]),
        tuple([caller.away() for caller in callers]),
        tuple(met),
    )
