"""Live things: roads that go on, whose last deeds can be taken back."""

from sitout.basics import is_sequence
from sitout.errors import InvalidEvent, Refused
from sitout.plays import play
from sitout.roads import Road


class Live:
    """A road that goes on by a rule, which can be changed."""

    def __init__(self, rule, callers, servers):
        road = Road(callers, servers)
        # The rule, the road, and what it comes to by this rule.
        self.state = (rule, road, play(rule, road))
        # The states ahead of each deed that can be taken back.
        self.earlier = ()

    def __len__(self):
        return len(self.earlier)

    @property
    def rule(self):
        """The rule by which the road is played now."""
        return self.state[0]

    @property
    def road(self):
        """The road up to now."""
        return self.state[1]

    @property
    def played(self):
        """What the road has come to by the rule."""
        return self.state[2]

    def do(self, event):
        """Does an event; returns the goals that it meets, ascending."""
        state, goals = _further(self.state, event)
        self.turn_to(state)
        return goals

    def several(self, events):
        """Does all of some events, or none of them; returns what each of them would have returned."""
        if not is_sequence(events):
            raise Refused(0)
        state = self.state
        told = []
        for at, event in enumerate(events):
            try:
                state, goals = _further(state, event)
            except (InvalidEvent, Refused) as wrong:
                raise Refused(at) from wrong
            told.append(goals)
        self.turn_to(state)
        return tuple(told)

    def change(self, rule):
        """Lets the same road happen to another rule."""
        self.turn_to((rule, self.road, play(rule, self.road)))

    def undo(self):
        """Takes back the last deed; returns whether there was one."""
        if len(self.earlier) == 0:
            return False
        self.state = self.earlier[-1]
        self.earlier = self.earlier[:-1]
        return True

    def trial(self):
        """A context manager behind whose block all is as it was ahead of it."""
        return Trial(self)

    def within(self, work):
        """Calls work with this live thing in such a block; returns what it returns."""
        with self.trial() as held:
            return work(held)

    def turn_to(self, state):
        """Takes another state, as a deed that can be taken back."""
        self.earlier = (*self.earlier, self.state)
        self.state = state


class Trial:
    """A block that leaves a live thing as it was."""

    def __init__(self, live):
        self.held = live
        self.state = None
        self.earlier = None

    def __enter__(self):
        self.state = self.held.state
        self.earlier = self.held.earlier
        return self.held

    def __exit__(self, kind, value, trace):
        held = self.held
        held.state = self.state
        held.earlier = self.earlier


def _further(state, event):
    """The state behind a further event, and the goals that it meets, ascending."""
    rule, road, _ = state
    longer = road.further([event])
    played = play(rule, longer)
    return (rule, longer, played), tuple([goal for at, goal in played.met if at == len(road)])
