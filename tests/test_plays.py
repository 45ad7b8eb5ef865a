"""Tests of [12], and of [1] to [3] for plays: what happens on a road by a rule."""

import random
import unittest
from itertools import product

from sitout.errors import Refused
from sitout.plays import Played, play
from sitout.roads import Road
from sitout.rules import Rule
from tests import look

FAST = Rule.read("leave 2 of 2 out 3 more 0 most 3 calm 0 back open share 1/2 down hears no")
NAMES = ("standings", "felt", "missed", "outs", "met")


def rule(**changed):
    given = {
        "need": 1, "of": 1, "base": 2, "more": 0, "most": 2, "calm": 0, "back": "open",
        "top": 1, "under": 2, "up": False, "hears": "out",
    }
    return Rule(**{**given, **changed})


def events(text):
    """The events of a short text: "f01" is a fault of the server 1 for the caller 0, "t012" a word of the caller 1."""
    found = []
    for word in text.split():
        if word[0] == "t":
            found.append(f"told {word[1]} {word[2]} {word[3]}")
        else:
            found.append(f"turn {word[1]} {word[2]} " + {"f": "fault", "k": "ok"}[word[0]])
    return found


def random_road(rng, made, callers, servers, many):
    """A road of events that are possible (words, where there are any), more faults than not."""
    state, row = look.opened(callers, servers), []
    while len(row) < many:
        c, s = rng.randrange(callers), rng.randrange(servers)
        event = f"turn {c} {s} " + rng.choice(["fault", "fault", "ok"])
        if callers > 1 and rng.random() < 0.3:
            event = f"told {c} {rng.choice([d for d in range(callers) if d != c])} {s}"
        gone = look.go(made, state, event)
        if gone is not None:
            state = gone[0]
            row.append(event)
    return Road(callers, servers, row)


def random_rule(rng):
    need = rng.choice([1, 1, 2, 2, 3, 4])
    base = rng.randint(1, 4)
    under = rng.choice([1, 2, 3, 4, 7, 20])
    return Rule(
        need, rng.randint(need, 4), base, rng.randint(0, 3), rng.randint(base, 9), rng.randint(0, 4),
        rng.choice(["open", "half", "trial"]), rng.randint(0, under), under, rng.random() < 0.5,
        rng.choice(["fault", "out", "no"]),
    )


class Case(unittest.TestCase):
    def told(self, played):
        """All that is told of a road."""
        return {name: getattr(played, name) for name in NAMES}

    def met(self, made, callers, servers, text):
        """The goals that are met on a road, each with the number of its event."""
        road = Road(callers, servers, events(text))
        played = play(made, road)
        self.assertEqual(self.told(played), look.look_play(made, road))
        return played.met

    def refused(self, at, made, callers, servers, text):
        road = Road(callers, servers, events(text))
        with self.subTest(text=text):
            with self.assertRaises(Refused) as caught:
                play(made, road)
            self.assertEqual(caught.exception.at, at)
            self.assertIs(type(caught.exception.at), int)
            self.assertEqual(look.look_play(made, road), at)


class Attributes(Case):
    def test_the_example_of_the_document(self):
        played = play(FAST, Road(1, 2, events("f00 f00 f01 f01 k00 f01")))
        self.assertIs(type(played), Played)
        self.assertEqual(played.standings, ((("out", 2, 1), ("in", (True, True), 0, 0)),))
        self.assertEqual((played.felt, played.missed, played.outs), (((2, 3),), ((1, 0),), (1,)))
        self.assertEqual(played.met, ((3, "kept"), (5, "kept"), (5, "swap")))

    def test_no_event(self):
        expected = {
            "standings": ((("in", (), 0, 0),) * 3,) * 2, "felt": ((0, 0, 0),) * 2, "missed": ((0, 0, 0),) * 2,
            "outs": (0, 0), "met": (),
        }
        self.assertEqual(self.told(play(FAST, Road(2, 3))), expected)
        self.assertEqual(self.told(play(rule(top=0), Road(1, 1))), {
            "standings": ((("in", (), 0, 0),),), "felt": ((0,),), "missed": ((0,),), "outs": (0,), "met": (),
        })

    def test_tuples_of_tuples_of_integers(self):
        for road in (Road(2, 2), Road(2, 2, events("f00 k00 f11 t011 k10 t100"))):
            played = play(rule(top=1, under=1), road)
            for name in NAMES:
                self.assertIs(type(getattr(played, name)), tuple)
            for name in ("standings", "felt", "missed"):
                for row in getattr(played, name):
                    self.assertIs(type(row), tuple)
                    self.assertEqual(len(row), 2)
            for standing in sum(played.standings, ()):
                self.assertIs(type(standing), tuple)
            for number in sum(played.felt + played.missed + (played.outs,), ()):
                self.assertIs(type(number), int)
            for pair in played.met:
                self.assertIs(type(pair), tuple)
                self.assertEqual([type(part) for part in pair], [int, str])

    def test_several_callers_and_servers(self):
        played = play(rule(under=3, top=2), Road(2, 3, events("f00 k01 f12 f12 k12 f10 k10 f02 f02 k02")))
        self.assertEqual(played.standings, (
            (("out", 2, 1), ("in", (False,), 0, 0), ("in", (), 1, 0)),
            (("out", 1, 1), ("in", (), 0, 0), ("in", (), 1, 0)),
        ))
        self.assertEqual(played.felt, ((1, 0, 1), (1, 0, 1)))
        self.assertEqual(played.missed, ((0, 0, 1), (1, 0, 1)))
        self.assertEqual(played.outs, (1, 1))
        self.assertEqual(played.met, ())

    def test_outs_count_those_on_trial(self):
        made = rule(back="trial", top=1, under=1, base=1, most=1)
        for text, outs in (("f00", 1), ("f00 f00", 1), ("f00 f00 f01", 2), ("f00 k00 k00", 0), ("f00 k00 f00", 1)):
            self.assertEqual(play(made, Road(1, 3, events(text))).outs, (outs,))

    def test_felt_and_missed(self):
        made = rule(need=2, of=2, back="trial", top=1, under=1)
        played = play(made, Road(1, 1, events("f00 k00 f00 f00 k00 f00 f00 k00 k00 k00 f00")))
        # Felt, ok, felt, felt and out; missed, skipped, the trial's fault felt; missed twice; the trial's ok; felt.
        self.assertEqual((played.felt, played.missed), (((5,),), ((3,),)))
        self.assertEqual(played.standings, ((("in", (True,), 1, 0),),))

    def test_words_are_neither_felt_nor_missed(self):
        for hears in ("fault", "out", "no"):
            played = play(rule(hears=hears, top=1, under=1), Road(2, 1, events("f10 t010 t010 t010")))
            self.assertEqual((played.felt, played.missed), (((0,), (1,)), ((0,), (0,))))


class Refusals(Case):
    def test_a_word_ahead_of_the_leaving_out(self):
        for hears in ("fault", "out", "no"):
            made = rule(hears=hears)
            self.refused(0, made, 2, 2, "t010")
            self.refused(2, made, 2, 2, "k00 k10 t010 f10")
            self.refused(1, rule(hears=hears, need=2, of=2), 2, 2, "f10 t010 f10")

    def test_of_several_it_is_the_first(self):
        self.refused(1, rule(), 3, 2, "f10 t020 t021 t010")
        self.refused(3, rule(), 3, 2, "f10 t010 t210 t011 t021")

    def test_who_where_and_which(self):
        # The caller 1 has left the server 0 out: neither 2, nor the server 1.
        self.refused(2, rule(), 3, 2, "f10 t010 t020")
        self.refused(2, rule(), 3, 2, "f10 t010 t011")
        # Its own leaving-out is not one of the other's.
        self.refused(1, rule(), 2, 2, "f00 t010")
        self.refused(2, rule(), 2, 2, "f00 k10 t010")
        self.refused(2, rule(hears="no"), 2, 2, "f00 t100 t010")
        self.assertEqual(self.met(rule(), 2, 2, "f00 t100 t010"), ())

    def test_one_who_was_kept_was_not_left_out(self):
        self.refused(2, rule(), 2, 2, "f10 f11 t011")
        self.refused(1, rule(top=0), 2, 2, "f10 t010")
        self.refused(1, rule(), 2, 1, "f10 t010")

    def test_one_who_is_left_out_by_a_word_can_be_told_of(self):
        self.assertEqual(self.met(rule(), 3, 2, "f10 t010 t200"), ())
        self.refused(2, rule(hears="no"), 3, 2, "f10 t010 t200")

    def test_words_come_long_behind_and_again_and_again(self):
        made = rule(hears="fault", need=2, of=2)
        text = "f10 f10 k10 k10 k10 k10 k10 t010 k00 t010 k00 t010 t010 k00 k00 t010 t010"
        self.assertEqual(self.met(made, 2, 2, text), ())
        played = play(made, Road(2, 2, events(text)))
        self.assertEqual(played.standings[0][0], ("out", 2, 1))
        self.assertEqual(played.missed, ((2, 0), (2, 0)))

    def test_also_if_words_count_nothing(self):
        road = Road(2, 2, events("f10 t010 t010 k10 k10 k10 t010"))
        self.assertEqual(play(rule(hears="no"), road).standings[0][0], ("in", (), 0, 0))

    def test_on_trial_too(self):
        made = rule(back="trial", base=1, most=1)
        self.assertEqual(self.met(made, 2, 2, "f10 k10 t010 k10 t010"), ())

    def test_a_refused_road_changes_nothing(self):
        road = Road(2, 2, events("f10 t011"))
        for _ in range(2):
            with self.assertRaises(Refused):
                play(rule(), road)
        self.assertEqual(road, Road(2, 2, events("f10 t011")))


class All(Case):
    def test_met_and_not_met(self):
        made = rule(top=1, under=1)
        self.assertEqual(self.met(made, 1, 1, "f00"), ((0, "all"),))
        self.assertEqual(self.met(made, 1, 2, "f00 f01"), ((1, "all"),))
        self.assertEqual(self.met(made, 1, 3, "f00 f01"), ())
        self.assertEqual(self.met(made, 1, 1, "k00"), ())

    def test_behind_each_event_of_the_caller(self):
        made = rule(top=1, under=1, base=3, most=3)
        self.assertEqual(self.met(made, 1, 2, "f00 f01 k00 f01 k00 k00"), ((1, "all"), (2, "all"), (3, "all"), (4, "all")))

    def test_of_the_caller_of_the_event_only(self):
        made = rule(top=1, under=1)
        self.assertEqual(self.met(made, 2, 1, "f00 k10 f00"), ((0, "all"), (2, "all")))
        self.assertEqual(self.met(made, 2, 1, "f10 f00 k00 k10"), ((0, "all"), (1, "all"), (2, "all"), (3, "all")))

    def test_by_words(self):
        made = rule(top=1, under=1)
        self.assertEqual(self.met(made, 2, 1, "f10 t010 t010"), ((0, "all"), (1, "all"), (2, "all")))
        self.assertEqual(self.met(rule(top=1, under=1, hears="no"), 2, 1, "f10 f00 t010 k00 k00 t010"), (
            (0, "all"), (1, "all"), (2, "all"), (3, "all")
        ))

    def test_not_while_one_is_on_trial(self):
        made = rule(top=1, under=1, back="trial", base=1, most=1)
        self.assertEqual(self.met(made, 1, 2, "f00 f00 f01"), ())
        self.assertEqual(self.met(made, 1, 2, "f00 f00 f01 f00"), ((3, "all"),))
        self.assertEqual(self.met(made, 1, 2, "f00 f01 f00 f01"), ((1, "all"),))
        self.assertEqual(self.met(made, 2, 1, "f10 f10 f00 k00 t010"), ((0, "all"), (2, "all")))

    def test_not_when_one_has_come_back(self):
        made = rule(top=1, under=1, base=1, most=1)
        self.assertEqual(self.met(made, 1, 2, "f00 f01 k00"), ((1, "all"),))

    def test_with_a_share_that_is_rounded_up(self):
        made = rule(up=True)
        self.assertEqual(self.met(made, 1, 1, "f00"), ((0, "all"),))
        self.assertEqual(self.met(made, 1, 2, "f00 f01"), ((1, "kept"),))


class Kept(Case):
    def test_met_and_not_met(self):
        self.assertEqual(self.met(rule(), 1, 2, "f00 f01"), ((1, "kept"),))
        self.assertEqual(self.met(rule(), 1, 4, "f00 f01 f02 f03"), ((2, "kept"), (3, "kept")))
        self.assertEqual(self.met(rule(top=1, under=1), 1, 4, "f00 f01 f02"), ())
        self.assertEqual(self.met(rule(), 1, 1, "f00 f00 k00 f00"), ((0, "kept"), (1, "kept"), (3, "kept")))

    def test_only_if_it_was_tried(self):
        self.assertEqual(self.met(rule(need=2, of=2), 1, 2, "f00 f00 f01 k01 f01"), ())
        self.assertEqual(self.met(rule(), 1, 2, "f00 k01 f00 k01 k01"), ())

    def test_there_is_room_as_soon_as_one_is_back(self):
        self.assertEqual(self.met(rule(), 1, 2, "f00 f01 f00 f01 f00 f01 f00"), ((1, "kept"), (3, "kept"), (6, "kept")))

    def test_those_on_trial_take_room(self):
        made = rule(back="trial", base=1, most=1)
        self.assertEqual(self.met(made, 1, 2, "f00 f00 f01"), ((2, "kept"),))
        self.assertEqual(self.met(made, 1, 2, "f00 f00 k00 f01"), ())
        # The one on trial needs no room of its own.
        self.assertEqual(self.met(made, 1, 2, "f00 f00 f00"), ())

    def test_each_caller_has_its_own_room(self):
        self.assertEqual(self.met(rule(hears="no"), 2, 2, "f00 f11 f10 f01"), ((2, "kept"), (3, "kept")))
        self.assertEqual(self.met(rule(hears="no"), 2, 2, "f00 f11"), ())

    def test_by_words(self):
        self.assertEqual(self.met(rule(), 2, 2, "f11 f00 t011"), ((2, "kept"),))
        self.assertEqual(self.met(rule(hears="fault"), 2, 2, "f11 f00 t011"), ((2, "kept"),))
        self.assertEqual(self.met(rule(hears="no"), 2, 2, "f11 f00 t011"), ())
        self.assertEqual(self.met(rule(hears="fault", need=2, of=2), 2, 2, "f11 f11 f00 f00 t011 t011"), ((5, "kept"),))
        self.assertEqual(self.met(rule(need=2, of=2), 2, 2, "f11 f11 f00 f00 t011 t011"), ((4, "kept"), (5, "kept")))

    def test_words_for_one_who_is_out_or_on_trial_keep_nobody(self):
        self.assertEqual(self.met(rule(), 2, 2, "f10 f00 t010"), ())
        self.assertEqual(self.met(rule(back="trial", base=1, most=1), 2, 2, "f10 f00 k00 t010"), ())

    def test_what_stays_of_one_who_is_kept_by_a_word(self):
        for hears, behind in (("out", ("in", (False, False), 0, 0)), ("fault", ("in", (False, True), 0, 0))):
            made = rule(of=2, hears=hears)
            played = play(made, Road(2, 2, events("f11 f00 k01 k01 t011")))
            self.assertEqual((played.standings[0][1], played.met), (behind, ((4, "kept"),)))

    def test_without_places(self):
        for up in (True, False):
            made = rule(top=0, up=up, need=2, of=3)
            self.assertEqual(self.met(made, 1, 3, "f00 f00 f01 f01 k00 f00"), ((1, "kept"), (3, "kept"), (5, "kept")))
            self.assertEqual(play(made, Road(1, 3, events("f00 f00 f01 f01"))).outs, (0,))


class Swap(Case):
    def test_met_and_not_met(self):
        self.assertEqual(self.met(rule(), 1, 2, "f00 k00 f01"), ((2, "kept"), (2, "swap")))
        self.assertEqual(self.met(rule(), 1, 2, "f00 f00 f01"), ((2, "kept"),))
        self.assertEqual(self.met(rule(), 1, 2, "f00 f01"), ((1, "kept"),))
        self.assertEqual(self.met(rule(), 1, 2, "f00 k00 k01"), ())

    def test_the_last_turn_counts(self):
        made = rule(base=4, most=4)
        self.assertEqual(self.met(made, 1, 2, "f00 k00 f00 f01"), ((3, "kept"),))
        self.assertEqual(self.met(made, 1, 2, "f00 f00 k00 f01"), ((3, "kept"), (3, "swap")))

    def test_a_called_turn_is_not_missed(self):
        # It was ok, but called; the faults by which it was left out are no missed turns either.
        self.assertEqual(self.met(rule(need=1, of=2), 1, 2, "k00 f00 f01"), ((2, "kept"),))
        self.assertEqual(self.met(rule(base=1, most=1), 1, 2, "f00 k00 f00 f01"), ((3, "kept"),))
        self.assertEqual(self.met(rule(base=1, most=1), 2, 2, "f10 f00 k00 k00 t010 f01"), ((5, "kept"),))

    def test_on_trial(self):
        made = rule(back="trial", base=1, most=1)
        self.assertEqual(self.met(made, 1, 2, "f00 k00 f01"), ((2, "kept"), (2, "swap")))
        self.assertEqual(self.met(made, 1, 2, "f00 f00 f01"), ((2, "kept"),))
        self.assertEqual(self.met(made, 1, 2, "f00 k00 f00 f01"), ((3, "kept"),))

    def test_one_who_came_back_by_that_turn_and_was_left_out_by_words(self):
        for hears in ("out", "fault"):
            made = rule(base=1, most=1, hears=hears)
            self.assertEqual(self.met(made, 2, 2, "f10 f00 k00 t010 f01"), ((4, "kept"), (4, "swap")))
            # The turn by which it came back was a fault: it was skipped, but not missed.
            self.assertEqual(self.met(made, 2, 2, "f10 f00 f00 t010 f01"), ((4, "kept"),))
        made = rule(base=1, most=1, hears="fault", need=3, of=4, back="half")
        text = "f10 f10 f10 f00 f00 f00 k00 t010 t010 f01 f01 f01"
        self.assertEqual(self.met(made, 2, 2, text), ((11, "kept"), (11, "swap")))

    def test_one_who_is_back(self):
        made = rule(base=1, most=1, top=2, under=3)
        self.assertEqual(self.met(made, 1, 4, "f00 k00 f01 f02 f03"), ((4, "kept"),))

    def test_words_do_not_make_the_turn_forgotten(self):
        made = rule(base=4, most=4)
        self.assertEqual(self.met(made, 2, 2, "f10 f00 k00 t010 f01"), ((4, "kept"), (4, "swap")))

    def test_another_server_of_the_same_caller(self):
        made = rule(hears="no")
        self.assertEqual(self.met(made, 2, 2, "f10 k10 f00 f01"), ((3, "kept"),))
        # Its own last turn, missed before it came back, is not that of another one.
        made = rule(base=1, most=1)
        self.assertEqual(self.met(made, 2, 2, "f11 f01 k01 f00 t011"), ((4, "kept"),))

    def test_one_of_several_others(self):
        made = rule(top=2, under=3)
        self.assertEqual(self.met(made, 1, 3, "f00 f01 k00 f01 f02"), ((4, "kept"), (4, "swap")))
        self.assertEqual(self.met(made, 1, 3, "f00 f01 k00 f02"), ((3, "kept"), (3, "swap")))
        self.assertEqual(self.met(made, 1, 3, "f00 f01 k01 f02"), ((3, "kept"), (3, "swap")))
        self.assertEqual(self.met(made, 1, 3, "f00 f01 f01 f02"), ((3, "kept"),))

    def test_by_words(self):
        self.assertEqual(self.met(rule(), 2, 2, "f11 f00 k00 t011"), ((3, "kept"), (3, "swap")))
        self.assertEqual(self.met(rule(hears="no"), 2, 2, "f11 f00 k00 t011"), ())

    def test_never_with_places_for_nobody_or_for_all(self):
        self.assertEqual(self.met(rule(top=0), 1, 2, "f00 k00 f01"), ((0, "kept"), (2, "kept")))
        self.assertEqual(self.met(rule(top=1, under=1), 1, 2, "f00 k00 f01"), ((2, "all"),))


class Many(Case):
    def test_several_goals_one_after_another(self):
        found = self.met(rule(up=True), 2, 1, "f00 k00 f10")
        self.assertEqual(found, ((0, "all"), (1, "all"), (2, "all")))
        found = self.met(rule(), 1, 2, "f00 f01 k00 f01 f01")
        self.assertEqual(found, ((1, "kept"), (3, "kept"), (3, "swap"), (4, "kept"), (4, "swap")))
        self.assertEqual(list(found), sorted(found))

    def test_random_roads_of_many_rules(self):
        rng = random.Random(12)
        goals = set()
        for _ in range(500):
            made = random_rule(rng)
            road = random_road(rng, made, rng.randint(1, 4), rng.randint(1, 5), rng.choice([10, 40, 80]))
            found = self.told(play(made, road))
            if found != look.look_play(made, road):
                self.fail(f"{made}\n{road}\n{found}")
            self.assertEqual(list(found["met"]), sorted(set(found["met"])))
            goals |= {goal for _, goal in found["met"]}
        self.assertEqual(goals, {"all", "kept", "swap"})

    def test_random_roads_of_small_rules(self):
        for back, hears, (top, under), up in product(
            ("open", "half", "trial"), ("fault", "out", "no"), ((0, 1), (1, 1), (1, 2), (2, 3)), (True, False)
        ):
            rng = random.Random(f"{back} {hears} {top} {under} {up}")
            for need, base, most in ((1, 1, 1), (1, 1, 2), (2, 1, 1), (2, 2, 3)):
                made = rule(
                    back=back, hears=hears, top=top, under=under, up=up,
                    need=need, of=2, base=base, more=1, most=most, calm=1,
                )
                road = random_road(rng, made, 2, 3, 60)
                self.assertEqual(self.told(play(made, road)), look.look_play(made, road))

    def test_random_roads_with_words_that_are_not_possible(self):
        rng = random.Random(5)
        refused = 0
        for _ in range(300):
            made = random_rule(rng)
            callers, servers = rng.randint(2, 4), rng.randint(1, 3)
            choice = look.events_of(callers, servers)
            turns = [event for event in choice if event.startswith("turn")]
            road = Road(callers, servers, rng.choices(turns, k=30) + rng.choices(choice, k=10))
            expected = look.look_play(made, road)
            if isinstance(expected, int):
                refused += 1
                with self.assertRaises(Refused) as caught:
                    play(made, road)
                self.assertEqual(caught.exception.at, expected)
            else:
                self.assertEqual(self.told(play(made, road)), expected)
        self.assertGreater(refused, 50)
        self.assertLess(refused, 290)


class Conventions(Case):
    def test_arguments_by_name(self):
        road = Road(1, 2, events("f00 k00 f01"))
        expected = self.told(play(rule(), road))
        self.assertEqual(self.told(play(rule=rule(), road=road)), expected)
        self.assertEqual(self.told(play(road=road, rule=rule())), expected)

    def test_the_same_call_again(self):
        road = Road(2, 2, events("f00 k00 f01 f10 t010 t010"))
        first = self.told(play(rule(), road))
        play(rule(), Road(2, 2, events("f11 f10 t011")))
        play(rule(top=0), Road(1, 2, events("f00")))
        self.assertEqual(self.told(play(rule(), road)), first)

    def test_no_argument_is_changed(self):
        made, row = rule(), events("f00 k00 f01 f10 t010")
        road = Road(2, 2, row)
        before = (str(made), str(road), dict(vars(made)), dict(vars(road)))
        play(made, road)
        self.assertEqual((str(made), str(road), dict(vars(made)), dict(vars(road))), before)
        self.assertEqual(row, events("f00 k00 f01 f10 t010"))

    def test_a_played_is_not_iterable(self):
        for played in (play(rule(), Road(1, 1)), play(rule(), Road(1, 2, events("f00 k00 f01")))):
            for read in (iter, list, tuple, sorted, set, enumerate):
                with self.assertRaises(TypeError):
                    read(played)
            with self.assertRaises(TypeError):
                "met" in played

    def test_roads_of_lists_and_of_tuples(self):
        row = events("f00 k00 f01")
        expected = self.told(play(rule(), Road(1, 2, row)))
        self.assertEqual(self.told(play(rule(), Road(1, 2, tuple(row)))), expected)

    def test_at_the_limits_and_beyond_them(self):
        rng = random.Random(3)
        for callers, servers, many in ((4, 12, 80), (5, 14, 120), (12, 15, 300)):
            for made in (
                Rule(4, 4, 1, 1, 9, 6, "half", 10, 20, True, "fault"), Rule(1, 4, 9, 9, 9, 1, "trial", 1, 20, True, "out"),
                Rule(1, 6, 2, 3, 14, 8, "open", 11, 25, False, "out"),
            ):
                road = random_road(rng, made, callers, servers, many)
                self.assertEqual(self.told(play(made, road)), look.look_play(made, road))


if __name__ == "__main__":
    unittest.main()
