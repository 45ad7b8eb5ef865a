"""Tests of [7], and of [1] to [3] for roads."""

import unittest

from sitout.errors import InvalidEvent, InvalidRoad, InvalidText, NoEvent
from sitout.roads import Road
from sitout.rules import Rule
from tests.samples import TEXT, not_integers, not_sequences, values

EVENTS = ("turn 0 0 ok", "turn 1 2 fault", "told 1 0 2", "turn 0 2 ok")
LINES = "callers 2 servers 3\nturn 0 0 ok\nturn 1 2 fault\ntold 1 0 2\nturn 0 2 ok"

# None of these is an event where there are two callers and three servers.
NO_EVENTS = (
    "", " ", "turn", "told", "ok", "turn 0 0", "turn 0 ok", "turn 0 0 ok ", " turn 0 0 ok", "turn  0 0 ok",
    "turn 0 0 ok\n", "\nturn 0 0 ok", "turn 0 0\nok", "turn\t0 0 ok", "turn 0 0 ok ok", "turn 0 0 0 ok",
    "turn 0 0 OK", "Turn 0 0 ok", "turn 0 0 faults", "turn 0 0 skip", "turn 0 0 told", "turn 0 0 1", "turn 0 0 ",
    "turn 2 0 ok", "turn 0 3 ok", "turn 99 0 ok", "turn 0 99 fault", "turn 100 0 ok", "turn 0 100 ok",
    "turn -1 0 ok", "turn 0 -1 ok", "turn +1 0 ok", "turn 0 -0 ok", "turn 00 0 ok", "turn 0 01 ok", "turn 01 0 ok",
    "turn \u0660 0 ok", "turn 0 \u0661 ok", "turn 0 \uff11 ok", "turn \u00b9 0 ok", "turn 1_0 0 ok", "turn a 0 ok",
    "turn  0 ok", "turn 0  ok", "turn 0.0 0 ok", "turn 0 0x1 ok",
    "told 0 1", "told 0 1 0 ok", "told 0 0 0", "told 1 1 0", "told 2 0 0", "told 0 2 0", "told 0 1 3", "told 0 1 99",
    "told 0 1 00", "told 00 1 0", "told 0 01 0", "told 0 1 -1", "told 0 1 ok", "told 0 1 ", "told 0 1 0 ",
    "told 0 1 0\n", "Told 0 1 0", "told 0 \u0661 0", "tell 0 1 0", "ok 0 0 turn", "0 0 ok turn",
    "callers 2 servers 3", TEXT,
)


def road():
    return Road(2, 3, list(EVENTS))


class Case(unittest.TestCase):
    def raises(self, error, attribute, value, call, *arguments, **named):
        with self.assertRaises(error) as caught:
            call(*arguments, **named)
        kept = getattr(caught.exception, attribute)
        self.assertEqual(kept, value)
        self.assertIs(type(kept), type(value))


class Made(Case):
    def test_attributes_are_the_arguments(self):
        for made in (Road(2, 3, EVENTS), Road(callers=2, servers=3, events=EVENTS), Road(2, 3, events=list(EVENTS))):
            self.assertEqual((made.callers, made.servers, made.events), (2, 3, EVENTS))
            self.assertIs(type(made.events), tuple)

    def test_no_events(self):
        for made in (Road(1, 1), Road(1, 1, ()), Road(1, 1, []), Road(callers=1, servers=1)):
            self.assertEqual((made.callers, made.servers, made.events), (1, 1, ()))
            self.assertIs(type(made.events), tuple)

    def test_a_list_that_is_changed_behind_the_call(self):
        events = list(EVENTS)
        made = Road(2, 3, events)
        events[0] = "turn 1 1 ok"
        events.append("x")
        self.assertEqual(made.events, EVENTS)
        events.clear()
        self.assertEqual((made.events, len(made), str(made)), (EVENTS, 4, LINES))

    def test_arguments_are_not_changed(self):
        events = list(EVENTS)
        Road(2, 3, events).further(events)
        self.assertEqual(events, list(EVENTS))

    def test_all_callers_and_servers(self):
        for callers in range(1, 5):
            for servers in range(1, 13):
                events = [f"turn {c} {s} {word}" for c in range(callers) for s in range(servers)
                          for word in ("ok", "fault")]
                events += [f"told {c} {d} {s}" for c in range(callers) for d in range(callers) if c != d
                           for s in range(servers)]
                self.assertEqual(Road(callers, servers, events).events, tuple(events))

    def test_two_digits(self):
        self.assertEqual(Road(1, 12, ["turn 0 10 ok", "turn 0 11 fault"]).events, ("turn 0 10 ok", "turn 0 11 fault"))
        self.raises(InvalidEvent, "at", 1, Road, 1, 12, ["turn 0 11 ok", "turn 0 12 ok"])

    def test_many_events(self):
        self.assertEqual(len(Road(1, 1, ["turn 0 0 fault"] * 100)), 100)


class Wrong(Case):
    def wrong(self, word, *arguments):
        with self.subTest(arguments=arguments):
            self.raises(InvalidRoad, "word", word, Road, *arguments)
            self.raises(InvalidRoad, "word", word, Road, **dict(zip(("callers", "servers", "events"), arguments)))

    def not_event(self, at, callers, servers, events):
        with self.subTest(events=events):
            self.raises(InvalidEvent, "at", at, Road, callers, servers, events)
            self.raises(InvalidEvent, "at", at, Road, callers, servers, tuple(events))

    def test_callers(self):
        for value in not_integers() + [0, -1, -(10**30)]:
            self.wrong("callers", value, 1)
            self.wrong("callers", value, 1, EVENTS)

    def test_servers(self):
        for value in not_integers() + [0, -1, -(10**30)]:
            self.wrong("servers", 1, value)
            self.wrong("servers", 1, value, ())

    def test_events_that_are_no_sequence(self):
        for value in not_sequences():
            self.wrong("events", 2, 3, value)

    def test_the_first_of_several(self):
        self.wrong("callers", 0, 0, "")
        self.wrong("callers", 0, 1, None)
        self.wrong("callers", None, 1, ["x"])
        self.wrong("servers", 1, 0, "")
        self.wrong("servers", 1, True, ["x"])

    def test_things_that_are_no_events(self):
        for value in values() + list(NO_EVENTS):
            if value == "turn 0 0 ok":
                continue
            self.not_event(0, 2, 3, [value])
            self.not_event(2, 2, 3, ["turn 0 0 ok", "told 0 1 0", value, "turn 0 0 ok"])

    def test_the_first_thing_that_is_no_event(self):
        self.not_event(1, 2, 3, ["turn 0 0 ok", "", None, "turn 9 9 ok"])
        self.not_event(0, 2, 3, [list(EVENTS)])
        self.not_event(3, 2, 3, list(EVENTS[:3]) + [EVENTS])
        self.not_event(79, 2, 3, ["turn 0 0 ok"] * 79 + ["turn 0 0 Ok"])

    def test_callers_and_servers_that_there_are_not(self):
        self.not_event(0, 1, 1, ["turn 1 0 ok"])
        self.not_event(0, 1, 1, ["turn 0 1 ok"])
        self.not_event(1, 3, 2, ["turn 2 1 ok", "turn 1 2 ok"])
        self.not_event(0, 1, 2, ["told 0 1 0"])
        self.not_event(0, 1, 2, ["told 1 0 0"])
        self.not_event(2, 3, 2, ["told 2 0 1", "told 0 2 1", "told 0 1 2"])

    def test_who_hears_and_who_is_heard_are_two(self):
        for c in range(3):
            self.not_event(0, 3, 3, [f"told {c} {c} 0"])


class Read(Case):
    def test_len(self):
        self.assertEqual((len(Road(1, 1)), len(Road(1, 1, ["turn 0 0 ok"])), len(road())), (0, 1, 4))

    def test_index(self):
        self.assertEqual([road()[at] for at in range(4)], list(EVENTS))

    def test_an_index_that_is_none(self):
        for at in (-1, -4, -5, 4, 5, 10**30, -(10**30)):
            self.raises(NoEvent, "at", at, road().__getitem__, at)
            with self.assertRaises(IndexError):
                road()[at]
        for at in (-1, 0, 1):
            self.raises(NoEvent, "at", at, Road(1, 1).__getitem__, at)

    def test_upto(self):
        for many in range(5):
            made = road().upto(many)
            self.assertIs(type(made), Road)
            self.assertEqual((made.callers, made.servers, made.events), (2, 3, EVENTS[:many]))
        self.assertEqual(road().upto(many=2), Road(2, 3, EVENTS[:2]))

    def test_upto_more_than_there_are(self):
        for many in (4, 5, 80, 10**30):
            self.assertEqual(road().upto(many), road())
            self.assertEqual(Road(1, 1).upto(many), Road(1, 1))

    def test_upto_leaves_the_elder_road_as_it_was(self):
        elder = road()
        elder.upto(1)
        self.assertEqual(elder, road())

    def test_further(self):
        elder = Road(2, 3, EVENTS[:1])
        for made in (elder.further(EVENTS[1:]), elder.further(list(EVENTS[1:])), elder.further(events=EVENTS[1:])):
            self.assertIs(type(made), Road)
            self.assertEqual((made.callers, made.servers, made.events), (2, 3, EVENTS))
            self.assertIs(type(made.events), tuple)
        self.assertEqual(elder, Road(2, 3, EVENTS[:1]))

    def test_no_further_ones(self):
        for events in ((), []):
            self.assertEqual(road().further(events), road())

    def test_further_ones_that_are_changed_behind_the_call(self):
        events = ["turn 1 1 ok"]
        made = road().further(events)
        events.append("x")
        self.assertEqual(made.events, EVENTS + ("turn 1 1 ok",))

    def test_further_ones_that_are_no_sequence(self):
        elder = road()
        for value in not_sequences():
            with self.subTest(value=value):
                self.raises(InvalidRoad, "word", "events", elder.further, value)
        self.assertEqual(elder, road())

    def test_further_ones_that_are_no_events(self):
        elder = road()
        for value in values() + list(NO_EVENTS):
            if value == "turn 0 0 ok":
                continue
            with self.subTest(value=value):
                self.raises(InvalidEvent, "at", 4, elder.further, [value])
                self.raises(InvalidEvent, "at", 6, elder.further, ("turn 0 0 ok", "told 0 1 0", value, None))
        self.raises(InvalidEvent, "at", 0, Road(1, 1).further, ["x"])
        self.assertEqual(elder, road())
        self.assertEqual((len(elder), str(elder)), (4, LINES))


class Texts(Case):
    def refused(self, at, text):
        with self.subTest(text=text):
            self.raises(InvalidText, "at", at, Road.read, text)

    def test_str(self):
        self.assertEqual(str(road()), LINES)
        self.assertEqual(str(Road(1, 1)), "callers 1 servers 1")
        self.assertEqual(str(Road(4, 12)), "callers 4 servers 12")

    def test_read(self):
        for made in (Road.read(LINES), Road.read(text=LINES)):
            self.assertIs(type(made), Road)
            self.assertEqual((made.callers, made.servers, made.events), (2, 3, EVENTS))
            self.assertIs(type(made.events), tuple)
            self.assertIs(type(made.callers), int)
        self.assertEqual(Road.read("callers 1 servers 1"), Road(1, 1))

    def test_one_from_the_other(self):
        for callers, servers in ((1, 1), (2, 3), (4, 12), (10, 99)):
            last = f"turn {callers - 1} {servers - 1} fault"
            for events in ([], [last], [last, "turn 0 0 ok"] * 20):
                made = Road(callers, servers, events)
                self.assertEqual(Road.read(str(made)), made)
                self.assertEqual(str(Road.read(str(made))), str(made))

    def test_a_first_line_that_cannot_stand_there(self):
        lines = (
            "", " ", "callers", "callers 2", "callers 2 servers", "callers 2 servers ", "callers servers 2 3",
            "servers 3 callers 2", "callers 2 servers 3 ", " callers 2 servers 3", "callers  2 servers 3",
            "callers 2  servers 3", "callers 2 servers 3 4", "Callers 2 servers 3", "callers 2 Servers 3",
            "caller 2 server 3", "callers 0 servers 3", "callers 2 servers 0", "callers 00 servers 3",
            "callers 02 servers 3", "callers 2 servers 03", "callers 100 servers 3", "callers 2 servers 100",
            "callers -2 servers 3", "callers +2 servers 3", "callers 2 servers -3", "callers 2.0 servers 3",
            "callers \u0662 servers 3", "callers 2 servers \uff13", "callers \u00b2 servers 3", "callers x servers 3",
            "callers 2 servers x", "callers  servers 3", "callers 2\tservers 3", "callers 2 servers 3\r",
            "callers 2 servers 3\x0b", "turn 0 0 ok", "# callers 2 servers 3", "callers 2, servers 3",
        )
        for line in lines:
            self.refused(0, line)
            self.refused(0, line + "\nturn 0 0 ok")
            self.refused(0, line + "\nx")

    def test_the_empty_text(self):
        self.refused(0, "")
        self.refused(0, "\n")
        self.refused(0, "\n" + LINES)

    def test_a_later_line_that_cannot_stand_there(self):
        for line in NO_EVENTS:
            # A newline in what is no event makes two lines of it, and the first of them may be one.
            if "\n" not in line:
                self.refused(1, "callers 2 servers 3\n" + line)
                self.refused(3, "callers 2 servers 3\nturn 0 0 ok\ntold 0 1 0\n" + line + "\nturn 0 0 ok\nx")
                self.refused(5, LINES + "\n" + line)

    def test_empty_lines(self):
        self.refused(1, "callers 2 servers 3\n")
        self.refused(1, "callers 2 servers 3\n\nturn 0 0 ok")
        self.refused(5, LINES + "\n")
        self.refused(5, LINES + "\n\n")
        self.refused(1, LINES.replace("\n", "\n\n"))

    def test_lines_stand_between_newlines_only(self):
        for end in ("\r", "\r\n", "\x0b", "\x0c", "\x1c", "\x85", "\u2028"):
            self.refused(0, LINES.replace("\n", end))
            self.refused(1, "callers 1 servers 1\nturn 0 0 ok" + end)

    def test_callers_and_servers_that_there_are_not(self):
        self.refused(1, "callers 1 servers 1\nturn 1 0 ok")
        self.refused(2, "callers 1 servers 1\nturn 0 0 ok\nturn 0 1 ok")
        self.refused(2, "callers 2 servers 1\ntold 0 1 0\ntold 0 0 0")
        self.refused(1, "callers 2 servers 1\ntold 0 2 0")


class Likeness(unittest.TestCase):
    def test_equal_if_all_three_are(self):
        self.assertIs(road() == Road(2, 3, EVENTS), True)
        self.assertIs(road() != Road(2, 3, EVENTS), False)
        self.assertIs(Road(1, 1) == Road(1, 1, []), True)

    def test_each_counts(self):
        for other in (Road(3, 3, EVENTS), Road(2, 4, EVENTS), Road(2, 3, EVENTS[:3]), Road(2, 3, EVENTS[::-1]),
                      Road(2, 3), Road(2, 3, EVENTS + EVENTS[:1]), Road(3, 2, ["turn 0 0 ok"])):
            with self.subTest(str(other)):
                self.assertIs(road() == other, False)
                self.assertIs(road() != other, True)
        self.assertIs(Road(2, 3) == Road(3, 2), False)

    def test_never_equal_to_anything_of_another_class(self):
        class Look:
            callers, servers, events = 2, 3, EVENTS

            def __str__(self):
                return LINES

        for other in (Look(), LINES, EVENTS, list(EVENTS), (2, 3, EVENTS), None, 4, True, Rule.read(TEXT), object()):
            with self.subTest(other=other):
                self.assertIs(road() == other, False)
                self.assertIs(other == road(), False)
                self.assertIs(road() != other, True)


class Conventions(unittest.TestCase):
    def test_a_road_is_not_iterable(self):
        for made in (road(), Road(1, 1)):
            for read in (iter, list, tuple, sorted, set, enumerate):
                with self.assertRaises(TypeError):
                    read(made)
            with self.assertRaises(TypeError):
                for _ in made:
                    pass
            with self.assertRaises(TypeError):
                "turn 0 0 ok" in made

    def test_a_road_is_no_sequence_of_events(self):
        with self.assertRaises(InvalidRoad):
            Road(2, 3, road())
        with self.assertRaises(InvalidRoad):
            road().further(road())

    def test_the_same_call_again(self):
        made = road()
        first = [made.upto(2), made.further(["turn 0 0 ok"]), str(made), len(made), made[1]]
        self.assertEqual([made.upto(2), made.further(["turn 0 0 ok"]), str(made), len(made), made[1]], first)
        self.assertEqual(Road.read(LINES), Road.read(LINES))

    def test_lists_and_tuples_alike(self):
        self.assertEqual(Road(2, 3, list(EVENTS)), Road(2, 3, EVENTS))
        self.assertEqual(road().further(list(EVENTS)), road().further(EVENTS))


if __name__ == "__main__":
    unittest.main()
