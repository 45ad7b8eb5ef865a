"""Roads: how many callers and servers there are, and what happens to them."""

from sitout.basics import is_from, is_sequence, read_number
from sitout.errors import InvalidEvent, InvalidRoad, InvalidText, NoEvent

_ANSWERS = ("fault", "ok")


class Road:
    """So many callers and servers, and a row of events."""

    def __init__(self, callers, servers, events=()):
        if not is_from(callers, 1):
            raise InvalidRoad("callers")
        if not is_from(servers, 1):
            raise InvalidRoad("servers")
        if not is_sequence(events):
            raise InvalidRoad("events")
        wrong = _first_wrong(callers, servers, events)
        if wrong is not None:
            raise InvalidEvent(wrong)
        self.callers = callers
        self.servers = servers
        self.events = tuple(events)

    def __len__(self):
        return len(self.events)

    def __getitem__(self, at):
        # Python would count a negative index from the end: it is no event here.
        if not 0 <= at < len(self.events):
            raise NoEvent(at)
        return self.events[at]

    # Without this a road could be iterated by its index.
    def __iter__(self):
        raise TypeError("a road is not iterable")

    def __eq__(self, other):
        return (
            isinstance(other, Road)
            and self.callers == other.callers
            and self.servers == other.servers
            and self.events == other.events
        )

    def __str__(self):
        return "\n".join([f"callers {self.callers} servers {self.servers}", *self.events])

    @classmethod
    def read(cls, text):
        """The road with a text."""
        lines = text.split("\n")
        counts = _read_counts(lines[0])
        if counts is None:
            raise InvalidText(0)
        callers, servers = counts
        wrong = _first_wrong(callers, servers, lines[1:])
        if wrong is not None:
            raise InvalidText(wrong + 1)
        return cls(callers, servers, lines[1:])

    def upto(self, many):
        """The road with so many of the events, from the first one on."""
        return Road(self.callers, self.servers, self.events[:many])

    def further(self, events):
        """The road with further events behind its own ones."""
        if not is_sequence(events):
            raise InvalidRoad("events")
        return Road(self.callers, self.servers, self.events + tuple(events))


def _first_wrong(callers, servers, events):
    """The number of the first thing that is no event of so many callers and servers, or None."""
    for at, event in enumerate(events):
        if not _is_event(callers, servers, event):
            return at
    return None


def _is_event(callers, servers, event):
    """Whether any value is an event of so many callers and servers."""
    if not isinstance(event, str):
        return False
    words = event.split(" ")
    if len(words) != 4:
        return False
    if words[0] == "turn":
        _, caller, server, answer = words
        return _is_one_of(caller, callers) and _is_one_of(server, servers) and answer in _ANSWERS
    if words[0] == "told":
        _, caller, teller, server = words
        if not _is_one_of(caller, callers) or not _is_one_of(teller, callers):
            return False
        return caller != teller and _is_one_of(server, servers)
    return False


def _is_one_of(word, many):
    """Whether a word is the number of one of so many."""
    number = read_number(word)
    return number is not None and number < many


def _read_counts(line):
    """The numbers of callers and servers in the first line of a text, or None."""
    words = line.split(" ")
    if len(words) != 4 or words[0] != "callers" or words[2] != "servers":
        return None
    callers, servers = read_number(words[1]), read_number(words[3])
    if not is_from(callers, 1) or not is_from(servers, 1):
        return None
    return callers, servers
