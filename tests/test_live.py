"""Tests of [21]: live things, what they do, and what is taken back."""

import random
import unittest
from time import perf_counter

from sitout.errors import InvalidEvent, InvalidRoad, Refused, SitError
from sitout.live import Live
from sitout.plays import Played, play
from sitout.roads import Road
from sitout.rules import Rule
from tests import look
from tests.samples import not_integers, not_sequences, values

TEXT = "leave 2 of 2 out 3 more 0 most 3 calm 0 back open share 1/2 down hears no"
FAST = Rule.read(TEXT)
TRIED = Rule.read(TEXT.replace("open", "trial"))
NEVER = Rule.read(TEXT.replace("1/2", "0/2"))
HEARD = Rule.read(TEXT.replace("hears no", "hears out").replace("leave 2", "leave 1"))

FAULT = "turn 0 0 fault"
OTHER = "turn 0 1 fault"
OK = "turn 0 0 ok"
TOLD = "told 1 0 0"


def facts(played):
    return (played.standings, played.felt, played.missed, played.outs, played.met)


def state(live):
    """All that is told of a live thing."""
    return (live.rule, live.road, facts(live.played), len(live))


class Oops(Exception):
    pass


class Case(unittest.TestCase):
    def exactly(self, value, expected):
        self.assertEqual(value, expected)
        self.assertEqual(repr(value), repr(expected))

    def stands(self, live, rule, road, many):
        """The properties are those of the road played by the rule."""
        self.assertEqual((live.rule, live.road, len(live)), (rule, road, many))
        self.assertIs(type(live.played), Played)
        expected = look.look_play(rule, road)
        self.exactly(facts(live.played), tuple(expected[name] for name in ("standings", "felt", "missed", "outs", "met")))

    def refuses(self, live, work, wrong, at):
        """A call raises this error, and nothing changes."""
        before = state(live)
        with self.assertRaises(SitError) as caught:
            work()
        self.assertIs(type(caught.exception), wrong)
        self.exactly(caught.exception.at, at)
        self.assertEqual(state(live), before)
        return caught.exception


class Made(Case):
    def test_at_first(self):
        for callers, servers in ((1, 1), (2, 3), (4, 12)):
            live = Live(TRIED, callers, servers)
            self.stands(live, TRIED, Road(callers, servers), 0)
            self.assertIs(live.undo(), False)
            self.stands(live, TRIED, Road(callers, servers), 0)

    def test_by_name(self):
        self.stands(Live(rule=FAST, callers=2, servers=3), FAST, Road(2, 3), 0)
        self.stands(Live(servers=3, rule=FAST, callers=2), FAST, Road(2, 3), 0)

    def test_no_road(self):
        for value in not_integers() + [0, -1, -(10 ** 30)]:
            with self.subTest(value=value):
                for callers, servers, word in ((value, 1, "callers"), (1, value, "servers"), (value, value, "callers")):
                    with self.assertRaises(InvalidRoad) as caught:
                        Live(FAST, callers, servers)
                    self.assertIs(type(caught.exception), InvalidRoad)
                    self.assertEqual(caught.exception.word, word)

    def test_properties_of_the_class(self):
        for name in ("rule", "road", "played"):
            self.assertIsInstance(vars(Live)[name], property)

    def test_it_is_not_iterable(self):
        live = Live(FAST, 1, 2)
        live.do(FAULT)
        for one in (live, live.trial()):
            for read in (iter, list, tuple, sorted, set, enumerate):
                with self.assertRaises(TypeError):
                    read(one)
            with self.assertRaises(TypeError):
                FAULT in one


class Do(Case):
    def test_the_goals_that_are_met(self):
        live = Live(FAST, 1, 2)
        row = [FAULT, FAULT, OTHER, OTHER, OK, OTHER]
        self.exactly([live.do(event) for event in row], [(), (), (), ("kept",), (), ("kept", "swap")])
        self.stands(live, FAST, Road(1, 2, row), 6)
        live = Live(Rule.read(TEXT.replace("down", "up")), 1, 1)
        self.exactly([live.do(event) for event in (FAULT, FAULT, OK, OK, OK)], [(), ("all",), ("all",), ("all",), ()])

    def test_each_deed_by_itself(self):
        live = Live(HEARD, 2, 2)
        row = []
        for event in (FAULT, TOLD, "turn 1 0 ok", "turn 1 1 fault", OK, OTHER):
            goals = live.do(event=event)
            row.append(event)
            played = look.look_play(HEARD, Road(2, 2, row))
            self.exactly(goals, tuple(goal for at, goal in played["met"] if at == len(row) - 1))
            self.stands(live, HEARD, Road(2, 2, row), len(row))

    def test_what_is_no_event(self):
        live = Live(FAST, 2, 2)
        others = [
            "", "turn", "turn 0 0", "turn 0 0 OK", "turn 0 2 ok", "turn 2 0 ok", "told 0 0 0", "told 0 2 0", "turn 00 0 ok",
            "turn 0 0 ok ", " turn 0 0 ok", "turn 0  0 ok", "turn 0 0 ok\n", "skip", "told 1 0", [FAULT], (FAULT,), [[FAULT]],
        ]
        for many in range(3):
            for value in [value for value in values() if value != OK] + others:
                with self.subTest(value=value, many=many):
                    self.refuses(live, lambda: live.do(value), InvalidEvent, many)
            live.do(FAULT)
        self.stands(live, FAST, Road(2, 2, [FAULT] * 3), 3)

    def test_what_is_not_possible(self):
        live = Live(FAST, 2, 2)
        for many in range(2):
            self.refuses(live, lambda: live.do(TOLD), Refused, many)
            self.refuses(live, lambda: live.do("told 0 1 0"), Refused, many)
            live.do(FAULT)
        self.refuses(live, lambda: live.do("told 0 1 0"), Refused, 2)
        self.exactly(live.do(TOLD), ())
        self.stands(live, FAST, Road(2, 2, [FAULT, FAULT, TOLD]), 3)

    def test_the_number_is_that_of_the_events_and_not_of_the_deeds(self):
        live = Live(FAST, 2, 2)
        live.several([FAULT] * 4)
        live.change(TRIED)
        live.several([])
        self.refuses(live, lambda: live.do("none"), InvalidEvent, 4)
        self.refuses(live, lambda: live.do("told 0 1 0"), Refused, 4)
        live.undo(), live.undo(), live.undo()
        self.refuses(live, lambda: live.do(None), InvalidEvent, 0)

    def test_good_ones_are_done_behind_it(self):
        live = Live(FAST, 1, 2)
        for wrong in (None, "turn", TOLD):
            with self.assertRaises(InvalidEvent):
                live.do(wrong)
            self.exactly(live.do(OK), ())
        self.stands(live, FAST, Road(1, 2, [OK] * 3), 3)


class Several(Case):
    def test_what_each_returned(self):
        row = [FAULT, FAULT, OTHER, OTHER, OK, OTHER]
        for events in (row, tuple(row)):
            live = Live(FAST, 1, 2)
            self.exactly(live.several(events), ((), (), (), ("kept",), (), ("kept", "swap")))
            self.stands(live, FAST, Road(1, 2, row), 1)
            self.exactly(live.several(events=[OTHER]), (("kept", "swap"),))
            self.stands(live, FAST, Road(1, 2, row + [OTHER]), 2)

    def test_no_events_are_a_deed_too(self):
        live = Live(FAST, 1, 2)
        for many, events in enumerate(([], (), []), 1):
            self.exactly(live.several(events), ())
            self.stands(live, FAST, Road(1, 2), many)
        self.assertIs(live.undo(), True)
        self.stands(live, FAST, Road(1, 2), 2)

    def test_what_is_no_sequence(self):
        live = Live(FAST, 2, 2)
        live.do(FAULT)
        for value in not_sequences() + [FAULT, TOLD, live, FAST]:
            with self.subTest(value=value):
                error = self.refuses(live, lambda: live.several(value), Refused, 0)
                self.assertIsNone(error.__cause__)

    def test_things_that_are_no_events(self):
        live = Live(FAST, 2, 2)
        live.several([OK, OK])
        for value in [value for value in values() if value != OK] + ["turn 0 2 ok", "told 0 0 1", [FAULT], (OK,)]:
            for ahead in ((), (FAULT,), (FAULT, FAULT, TOLD)):
                with self.subTest(value=value, ahead=ahead):
                    error = self.refuses(live, lambda: live.several([*ahead, value, OK]), Refused, len(ahead))
                    self.assertIs(type(error.__cause__), InvalidEvent)
                    self.exactly(error.__cause__.at, 2 + len(ahead))

    def test_events_that_are_not_possible(self):
        live = Live(FAST, 2, 2)
        live.several([OK, OK])
        for ahead in ((), (FAULT,), (FAULT, FAULT)):
            error = self.refuses(live, lambda: live.several((*ahead, "told 0 1 0", None)), Refused, len(ahead))
            self.assertIs(type(error.__cause__), Refused)
            self.exactly(error.__cause__.at, 2 + len(ahead))
        self.exactly(live.several((FAULT, FAULT, TOLD)), ((), (), ()))

    def test_the_first_wrong_one(self):
        live = Live(FAST, 2, 2)
        self.refuses(live, lambda: live.several([FAULT, None, TOLD]), Refused, 1)
        error = self.refuses(live, lambda: live.several([FAULT, TOLD, None]), Refused, 1)
        self.assertIs(type(error.__cause__), Refused)
        self.refuses(live, lambda: live.several([None]), Refused, 0)

    def test_a_list_that_is_changed_behind_the_call(self):
        live, row = Live(FAST, 1, 2), [FAULT, FAULT]
        live.several(row)
        row.append(OK)
        row[0] = OK
        self.stands(live, FAST, Road(1, 2, [FAULT, FAULT]), 1)
        self.assertEqual(row, [OK, FAULT, OK])

    def test_the_list_is_not_changed(self):
        live, row = Live(FAST, 1, 2), [FAULT, FAULT, None]
        with self.assertRaises(Refused):
            live.several(row)
        self.assertEqual(row, [FAULT, FAULT, None])


class Change(Case):
    def test_the_same_road_happens_to_another_rule(self):
        live = Live(FAST, 1, 2)
        row = [FAULT, FAULT, OTHER, OTHER, OK, OK, OK, FAULT]
        live.several(row)
        for many, rule in enumerate((TRIED, NEVER, HEARD, FAST), 2):
            self.assertIsNone(live.change(rule))
            self.stands(live, rule, Road(1, 2, row), many)
        live.change(rule=TRIED)
        live.do(OK)
        self.stands(live, TRIED, Road(1, 2, row + [OK]), 7)

    def test_to_an_equal_one(self):
        live = Live(FAST, 1, 2)
        live.change(FAST)
        live.change(Rule.read(TEXT))
        self.stands(live, FAST, Road(1, 2), 2)
        self.assertEqual((live.undo(), live.undo(), live.undo()), (True, True, False))

    def test_not_possible_by_the_other_rule(self):
        live = Live(FAST, 2, 2)
        live.several([OK, FAULT, FAULT, TOLD, TOLD])
        self.refuses(live, lambda: live.change(NEVER), Refused, 3)
        self.refuses(live, lambda: live.change(Rule.read(TEXT.replace("2 of 2", "3 of 3"))), Refused, 3)
        live.change(HEARD)
        self.stands(live, HEARD, Road(2, 2, [OK, FAULT, FAULT, TOLD, TOLD]), 2)

    def test_the_goals_of_what_comes_are_those_of_the_new_rule(self):
        live = Live(FAST, 1, 2)
        live.several([FAULT, FAULT, OTHER])
        live.change(Rule.read(TEXT.replace("1/2", "2/2")))
        self.exactly(live.do(OTHER), ("all",))
        live.undo(), live.undo()
        self.exactly(live.do(OTHER), ("kept",))


class Undo(Case):
    def test_until_nothing_is_left(self):
        live = Live(FAST, 2, 2)
        kept = []
        for work in (
            lambda: live.do(FAULT), lambda: live.several([FAULT, TOLD]), lambda: live.several([]), lambda: live.change(TRIED),
            lambda: live.change(TRIED), lambda: live.do(OK), lambda: live.several((OTHER, OTHER, OTHER)),
        ):
            kept.append(state(live))
            work()
        self.assertEqual(len(live), 7)
        for before in kept[::-1]:
            self.assertIs(live.undo(), True)
            self.assertEqual(state(live), before)
        for _ in range(2):
            self.assertIs(live.undo(), False)
            self.assertEqual(state(live), kept[0])

    def test_what_was_refused_is_no_deed(self):
        live = Live(FAST, 2, 2)
        live.do(FAULT)
        for work in (lambda: live.do(None), lambda: live.several([FAULT, None]), lambda: live.do(TOLD), lambda: live.several(0)):
            with self.assertRaises(SitError):
                work()
        self.assertEqual((live.undo(), live.undo()), (True, False))

    def test_something_else_behind_it(self):
        live = Live(FAST, 1, 2)
        live.do(FAULT), live.do(OK), live.undo(), live.do(FAULT)
        self.stands(live, FAST, Road(1, 2, [FAULT, FAULT]), 2)

    def test_a_word_that_is_no_longer_possible(self):
        live = Live(FAST, 2, 2)
        live.do(FAULT), live.do(FAULT), live.do(TOLD)
        live.undo(), live.undo()
        self.refuses(live, lambda: live.do(TOLD), Refused, 1)

    def test_undo_is_no_deed(self):
        live = Live(FAST, 1, 1)
        live.do(OK), live.do(OK), live.undo()
        self.assertEqual(len(live), 1)


class Trials(Case):
    def ready(self):
        live = Live(FAST, 2, 2)
        live.several([FAULT, FAULT])
        live.do(TOLD)
        return live

    def test_its_value_is_the_live_thing_and_all_is_as_it_was(self):
        live = self.ready()
        before = state(live)
        with live.trial() as held:
            self.assertIs(held, live)
            self.exactly(held.do(OTHER), ())
            self.exactly(live.several([OTHER]), (("kept",),))
            live.change(TRIED)
            self.assertEqual((len(live), live.rule), (5, TRIED))
        self.assertEqual(state(live), before)
        self.stands(live, FAST, Road(2, 2, [FAULT, FAULT, TOLD]), 2)

    def test_what_can_be_taken_back_is_as_it_was(self):
        live = self.ready()
        before = state(live)
        with live.trial():
            self.assertEqual((live.undo(), live.undo(), live.undo()), (True, True, False))
            self.assertEqual(len(live.road), 0)
            live.do(OK)
        self.assertEqual(state(live), before)
        self.assertIs(live.undo(), True)
        self.stands(live, FAST, Road(2, 2, [FAULT, FAULT]), 1)
        self.assertEqual((live.undo(), live.undo()), (True, False))

    def test_left_by_an_error_which_goes_on(self):
        live = self.ready()
        before = state(live)
        error = Oops("so")
        with self.assertRaises(Oops) as caught:
            with live.trial():
                live.do(OK)
                raise error
        self.assertIs(caught.exception, error)
        self.assertEqual(state(live), before)
        with self.assertRaises(InvalidEvent):
            with live.trial():
                live.do(OK)
                live.do(None)
        self.assertEqual(state(live), before)

    def test_blocks_within_blocks(self):
        live = self.ready()
        outer = state(live)
        with live.trial():
            live.do(OK)
            inner = state(live)
            with live.trial() as held:
                self.assertIs(held, live)
                live.do(OK), live.undo(), live.undo(), live.change(TRIED)
            self.assertEqual(state(live), inner)
            with self.assertRaises(Oops):
                with live.trial():
                    live.undo()
                    raise Oops()
            self.assertEqual(state(live), inner)
            live.undo(), live.undo()
        self.assertEqual(state(live), outer)

    def test_a_new_manager_each_time(self):
        live = self.ready()
        first, second = live.trial(), live.trial()
        self.assertIsNot(first, second)
        before = state(live)
        for manager in (second, first):
            with manager:
                live.do(OK)
            self.assertEqual(state(live), before)

    def test_as_it_was_when_it_was_entered(self):
        live = Live(FAST, 1, 2)
        manager = live.trial()
        live.do(FAULT)
        before = state(live)
        with manager:
            live.do(FAULT)
        self.assertEqual(state(live), before)
        self.stands(live, FAST, Road(1, 2, [FAULT]), 1)

    def test_left_ahead_of_its_end(self):
        live = self.ready()
        before = state(live)
        for _ in range(2):
            with live.trial():
                live.do(OK)
                continue
        self.assertEqual(state(live), before)

    def test_a_trial_is_no_deed(self):
        live = Live(FAST, 1, 1)
        with live.trial():
            pass
        self.assertEqual((len(live), live.undo()), (0, False))

    def test_two_live_things(self):
        one, other = Live(FAST, 1, 2), Live(TRIED, 1, 2)
        with one.trial():
            one.do(OK)
            other.do(FAULT)
        self.stands(one, FAST, Road(1, 2), 0)
        self.stands(other, TRIED, Road(1, 2, [FAULT]), 1)


class Within(Case):
    def test_what_the_work_returns(self):
        live = Live(FAST, 1, 2)
        live.do(FAULT)
        before = state(live)
        self.assertEqual(live.within(lambda held: (held is live, held.several([FAULT, OTHER, OTHER]), len(held))),
                         (True, ((), (), ("kept",)), 2))
        self.assertEqual(state(live), before)
        self.assertIsNone(live.within(lambda held: None))
        self.assertIs(live.within(work=lambda held: held), live)
        self.exactly(live.within(lambda held: held.undo()), True)
        self.assertEqual(state(live), before)

    def test_what_the_work_raises(self):
        live = Live(FAST, 1, 2)
        live.do(FAULT)
        before = state(live)
        error = Oops()

        def work(held):
            held.do(OK)
            held.undo(), held.undo()
            raise error

        with self.assertRaises(Oops) as caught:
            live.within(work)
        self.assertIs(caught.exception, error)
        self.assertEqual(state(live), before)
        with self.assertRaises(Refused):
            live.within(lambda held: held.several([OK, None]))
        self.assertEqual(state(live), before)

    def test_within_within(self):
        live = Live(FAST, 1, 2)

        def work(held):
            held.do(FAULT)
            return held.within(lambda inner: inner.do(FAULT)), len(held)

        self.assertEqual(live.within(work), ((), 1))
        self.stands(live, FAST, Road(1, 2), 0)

    def test_it_is_called_once(self):
        live, calls = Live(FAST, 1, 2), []
        live.within(calls.append)
        self.assertEqual(len(calls), 1)
        self.assertIs(calls[0], live)


class Many(Case):
    def test_random_deeds(self):
        """All deeds of a long life, against a list of what was."""
        rng = random.Random(9)
        rules = (FAST, TRIED, NEVER, HEARD, Rule.read("leave 1 of 2 out 1 more 1 most 3 calm 2 back half share 2/3 up hears fault"))
        refused = 0
        for _ in range(25):
            rule, row, past = rng.choice(rules), [], []
            live = Live(rule, 2, 3)
            events = look.events_of(2, 3)
            for _ in range(40):
                kind = rng.choice(("do", "do", "do", "several", "change", "undo"))
                before = (rule, list(row))
                further = [rng.choice(events) for _ in range({"do": 1, "several": rng.randint(0, 4)}.get(kind, 0))]
                other = rng.choice(rules) if kind == "change" else rule
                if kind == "undo":
                    self.assertIs(live.undo(), len(past) > 0)
                    rule, row = past.pop() if past else before
                elif isinstance(look.look_play(other, Road(2, 3, row + further)), int):
                    refused += 1
                    with self.assertRaises(Refused) as caught:
                        {"do": lambda: live.do(further[0]), "several": lambda: live.several(further),
                         "change": lambda: live.change(other)}[kind]()
                    at = look.look_play(other, Road(2, 3, row + further))
                    self.assertEqual(caught.exception.at, at - len(row) if kind == "several" else at)
                else:
                    past.append(before)
                    rule, row = other, row + further
                    met = look.look_play(rule, Road(2, 3, row))["met"]
                    told = tuple(tuple(goal for at, goal in met if at == number) for number in range(len(before[1]), len(row)))
                    if kind == "do":
                        self.exactly(live.do(further[0]), told[0])
                    elif kind == "several":
                        self.exactly(live.several(further), told)
                    else:
                        self.assertIsNone(live.change(rule))
                self.stands(live, rule, Road(2, 3, row), len(past))
        self.assertGreater(refused, 50)

    def test_the_same_call_again(self):
        live = Live(HEARD, 2, 2)
        live.several([FAULT, TOLD])
        first = state(live)
        other = Live(FAST, 2, 2)
        other.do(OK)
        play(FAST, live.road.upto(1))
        self.assertEqual(state(live), first)
        self.assertEqual(facts(play(live.rule, live.road)), facts(live.played))

    def test_what_was_read_stays_as_it_was(self):
        live = Live(FAST, 1, 2)
        live.do(FAULT)
        rule, road, played = live.rule, live.road, live.played
        kept = (str(rule), str(road), facts(played))
        live.do(FAULT), live.change(TRIED), live.several([OK])
        self.assertEqual((str(rule), str(road), facts(played)), kept)

    def test_soon_at_the_limits_and_beyond_them(self):
        rng = random.Random(3)
        rule = Rule.read("leave 2 of 3 out 1 more 1 most 6 calm 3 back half share 1/2 up hears out")
        row = [f"turn {rng.randrange(4)} {rng.randrange(12)} {rng.choice(('ok', 'fault'))}" for _ in range(100)]
        live = Live(rule, 4, 12)
        start = perf_counter()
        live.several(row)
        self.assertLess(perf_counter() - start, 1)
        self.stands(live, rule, Road(4, 12, row), 1)
        other = Live(rule, 4, 12)
        for event in row:
            start = perf_counter()
            other.do(event)
            self.assertLess(perf_counter() - start, 1)
        self.assertEqual(facts(live.played), facts(other.played))
        while other.undo():
            pass
        self.assertEqual(len(other.road), 0)


if __name__ == "__main__":
    unittest.main()
