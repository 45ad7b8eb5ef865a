"""Tests of [1] and [2] over the whole program: what holds for all modules."""

import copy
import unittest
from itertools import permutations

from sitout import comparing, deciding, mending, papers, plays, rates, standings, telling
from sitout.desk import Desk
from sitout.live import Live
from sitout.roads import Road
from sitout.rules import Rule
from tests.samples import rule, values

TEXT = "leave 2 of 2 out 3 more 0 most 3 calm 0 back open share 1/2 down hears no"
FAST = Rule.read(TEXT)
HEARD = Rule.read("leave 2 of 3 out 1 more 2 most 5 calm 2 back half share 1/2 up hears out")
FREE = ["told", "full"]
ROW = ["turn 0 0 fault", "turn 0 0 fault", "told 1 0 0", "turn 0 1 fault", "turn 0 0 ok"]
SEEN = ["fault", "fault", "skip", "ok"]


def played(found):
    return (found.standings, found.felt, found.missed, found.outs, found.met)


def paper():
    return papers.paper(HEARD, "missed", (1, 1), FREE)


# (function, its arguments by name): of each function of the interface that takes some.
CALLS = [
    (standings.step, {"rule": FAST, "standing": ("in", (True,), 0, 0), "letter": "fault"}),
    (standings.letters, {"free": FREE}),
    (standings.standings, {"rule": HEARD, "free": FREE}),
    (deciding.numbers, {"rule": HEARD, "goal": "swap"}),
    (deciding.happens, {"rule": HEARD, "goal": "all"}),
    (deciding.road, {"rule": HEARD, "goal": "swap"}),
    (rates.worst, {"rule": HEARD, "what": "felt", "free": FREE}),
    (rates.sick, {"rule": HEARD}),
    (rates.round_of, {"rule": HEARD, "what": "missed", "free": FREE}),
    (rates.longest, {"rule": HEARD, "what": "missed", "free": ["full"]}),
    (papers.paper, {"rule": HEARD, "what": "felt", "share": (1, 1), "free": FREE}),
    (papers.paper_holds, {"rule": HEARD, "what": "missed", "share": (1, 1), "value": paper(), "free": FREE}),
    (comparing.alike, {"p": FAST, "q": HEARD, "free": FREE}),
    (comparing.parting, {"p": FAST, "q": HEARD, "free": FREE}),
    (comparing.covers, {"p": HEARD, "q": FAST, "free": FREE}),
    (comparing.uncovered, {"p": HEARD, "q": FAST, "free": FREE}),
    (telling.fits, {"rule": HEARD, "seen": SEEN, "free": FREE}),
    (telling.fitting, {"rules": [FAST, HEARD, FAST], "seen": SEEN, "free": FREE}),
    (telling.first_misfit, {"rule": FAST, "seen": SEEN, "free": FREE}),
    (mending.mends, {"rule": HEARD, "what": "felt", "share": (2, 3), "free": FREE}),
    (mending.safe_top, {"under": 5, "up": True, "spare": 2, "start": 4}),
]


def as_text(arguments):
    """What arguments are, all of their parts told."""
    return {name: repr([str(part) for part in value]) if isinstance(value, list) else str(value) for name, value in arguments.items()}


class Calls(unittest.TestCase):
    def test_by_position_and_by_name_in_each_order(self):
        for asked, given in CALLS:
            expected = asked(*given.values())
            with self.subTest(asked=asked.__name__):
                self.assertEqual(asked(**given), expected)
                for order in list(permutations(given))[:24]:
                    self.assertEqual(asked(**{name: given[name] for name in order}), expected)
                first, *others = given
                self.assertEqual(asked(given[first], **{name: given[name] for name in others}), expected)

    def test_lists_and_tuples_alike(self):
        for asked, given in CALLS:
            tuples = {name: tuple(value) if isinstance(value, list) else value for name, value in given.items()}
            with self.subTest(asked=asked.__name__):
                self.assertEqual(asked(**tuples), asked(**given))
                if "free" in given:
                    self.assertEqual(asked(**{**given, "free": given["free"][::-1]}), asked(**given))

    def test_the_same_call_again_whatever_calls_were_made_in_between(self):
        first = [asked(**given) for asked, given in CALLS]
        kept = [copy.deepcopy(found) if not isinstance(found, Road) else str(found) for found in first]
        for asked, given in CALLS[::-1]:
            asked(*given.values())
        again = [asked(**given) for asked, given in CALLS]
        self.assertEqual(again, first)
        self.assertEqual([str(found) if isinstance(found, Road) else found for found in again], kept)

    def test_no_argument_is_changed(self):
        for asked, given in CALLS:
            before = as_text(given)
            asked(**given)
            with self.subTest(asked=asked.__name__):
                self.assertEqual(as_text(given), before)

    def test_free_is_nothing_if_it_is_left_out(self):
        for asked, given in CALLS:
            if "free" in given and asked is not papers.paper_holds:
                fewer = {name: value for name, value in given.items() if name != "free"}
                for nothing in ((), []):
                    self.assertEqual(asked(**fewer), asked(**fewer, free=nothing))

    def test_sequences_that_are_returned_are_tuples(self):
        for asked, given in CALLS:
            with self.subTest(asked=asked.__name__):
                self.assertIn(type(asked(**given)), (tuple, bool, int, Road, type(None)))

    def test_play(self):
        road = Road(2, 2, ROW)
        first = played(plays.play(FAST, road))
        for found in (plays.play(road=road, rule=FAST), plays.play(FAST, road=Road(2, 2, tuple(ROW))), plays.play(FAST, road)):
            self.assertEqual(played(found), first)


class Objects(unittest.TestCase):
    def objects(self):
        live, desk = Live(FAST, 2, 2), Desk()
        live.several(ROW)
        desk.say("rule " + TEXT)
        return [FAST, Road(2, 2, ROW), plays.play(FAST, Road(2, 2, ROW)), live, Live(FAST, 1, 1), desk, Desk(), live.trial()]

    def test_they_are_not_iterable(self):
        for one in self.objects():
            for read in (iter, list, tuple, set, sorted, enumerate, dict):
                with self.subTest(one=one, read=read), self.assertRaises(TypeError):
                    read(one)
            with self.assertRaises(TypeError):
                [*one]
            with self.assertRaises(TypeError):
                first, *_ = one

    def test_nothing_of_another_class_is_equal(self):
        for one in (FAST, rule(), Road(1, 1), Road(2, 2, ROW)):
            for other in values() + [str(one), one.__class__, [one], (one,), {"a": one}, 3.5] + self.objects():
                if other.__class__ is not one.__class__:
                    with self.subTest(one=str(one), other=other):
                        self.assertIs(one == other, False)
                        self.assertIs(other == one, False)
                        self.assertIs(one != other, True)

    def test_they_do_not_change_by_what_is_asked_of_them(self):
        live = Live(HEARD, 2, 2)
        live.several(["turn 0 0 fault", "turn 0 0 fault"])
        road, found = live.road, live.played
        before = (str(road), played(found), str(live.rule), len(live))
        for asked, given in CALLS:
            asked(**given)
        live.within(lambda held: held.several(["turn 0 0 ok"] * 5))
        road.upto(1), road.further(["turn 0 0 ok"]), len(road), road[0]
        self.assertEqual((str(road), played(found), str(live.rule), len(live)), before)
        self.assertEqual((str(live.road), played(live.played)), before[:2])


class Together(unittest.TestCase):
    """What one module tells may be passed on to another one."""

    def test_a_road_that_meets_a_goal_is_done_by_a_live_thing(self):
        for made in (FAST, HEARD, rule(), rule(back="trial", top=2, under=3)):
            for goal in ("all", "kept", "swap"):
                road = deciding.road(made, goal)
                if road is not None:
                    live = Live(made, road.callers, road.servers)
                    self.assertIn(goal, live.several(road.events)[-1])

    def test_rules_that_are_told_by_text(self):
        for what in ("felt", "missed"):
            share = rates.worst(HEARD, what, FREE)
            for text in mending.mends(HEARD, what, share, FREE):
                made = Rule.read(text)
                self.assertIs(papers.paper_holds(made, what, share, papers.paper(made, what, share, FREE), FREE), True)

    def test_a_desk_says_what_the_functions_tell(self):
        desk = Desk()
        for made in (FAST, HEARD, rule(back="trial")):
            desk.say(f"rule {made}")
            for what in ("felt", "missed"):
                self.assertEqual(tuple(map(int, desk.say(f"worst {what}").split("/"))), rates.worst(made, what))

    def test_a_row_that_parts_is_seen(self):
        for free in ((), ["full"], ["told"], FREE):
            row = comparing.parting(FAST, HEARD, free)
            seen = []
            standing = standings.begun()
            for letter in row:
                out = standing[0] == "out"
                standing, what = standings.step(FAST, standing, letter)
                if what != "told":
                    seen.append("skip" if out else letter.split()[0])
            self.assertIn(0, telling.fitting([FAST, HEARD], seen, free))


if __name__ == "__main__":
    unittest.main()
