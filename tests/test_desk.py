"""Tests of [22] and [23]: desks, their commands and answers."""

import random
import unittest
from itertools import product
from time import perf_counter

from sitout.deciding import numbers
from sitout.desk import Desk
from sitout.errors import InvalidCommand, InvalidEvent, InvalidRoad, InvalidRule, InvalidText, Refused, SitError
from sitout.live import Live
from sitout.plays import play
from sitout.rates import worst
from sitout.roads import Road
from sitout.rules import Rule
from tests.look_rounds import some_rules
from tests.samples import not_sequences, values

TEXT = "leave 2 of 2 out 3 more 0 most 3 calm 0 back open share 1/2 down hears no"
UP = TEXT.replace("down", "up")
TRIAL = TEXT.replace("open", "trial").replace("more 0 most 3", "more 2 most 7").replace("calm 0", "calm 2")
NEVER = TEXT.replace("1/2", "0/2")
GOALS = ("all", "kept", "swap")


def ready(text=TEXT, sizes="2 3", *events):
    desk = Desk()
    desk.say("rule " + text)
    desk.say("begin " + sizes)
    for event in events:
        desk.say("do " + event)
    return desk


def state(desk):
    """All that is told of a desk."""
    live = desk.live
    told = None if live is None else (live.rule, live.road, vars(live.played), len(live))
    return desk.own_rule, live, told


class Case(unittest.TestCase):
    def says(self, desk, command, answer):
        found = desk.say(command)
        self.assertEqual(found, answer)
        self.assertIs(type(found), str)

    def refuses(self, desk, command, wrong=InvalidCommand, **given):
        """A command raises this error, and nothing changes."""
        before = state(desk)
        with self.subTest(command=command):
            with self.assertRaises(SitError) as caught:
                desk.say(command)
            self.assertIs(type(caught.exception), wrong)
            for name, value in given.items():
                self.assertEqual(getattr(caught.exception, name), value)
                self.assertIs(type(getattr(caught.exception, name)), type(value))
        after = state(desk)
        self.assertEqual((after[0], after[2]), (before[0], before[2]))
        self.assertIs(after[1], before[1])


class Answers(Case):
    def test_the_example_of_the_document(self):
        desk = Desk()
        found = desk.say("rule " + TEXT), desk.say("begin 1 2"), desk.say("do turn 0 0 fault"), desk.say("show 0 0")
        self.assertEqual((*found, desk.say("worst felt")), ("1", "1", "-", "in x 0 0", "1/2"))
        found = desk.say("do turn 0 0 fault"), desk.say("show 0 0"), desk.say("undo")
        self.assertEqual(found, ("-", "out 3 1", "undone"))
        self.assertEqual((desk.say("numbers swap"), desk.say("numbers all")), ("2 on", "never"))

    def test_at_first(self):
        desk = Desk()
        self.assertIsNone(desk.own_rule)
        self.assertIsNone(desk.live)
        self.assertEqual(set(vars(desk)), {"own_rule", "live"})

    def test_rule(self):
        desk = Desk()
        for text, cap in ((TEXT, "1"), (TRIAL, "3"), (TEXT.replace("out 3 more 0 most 3", "out 1 more 1 most 12"), "12")):
            self.says(desk, "rule " + text, cap)
            self.assertEqual(desk.own_rule, Rule.read(text))
            self.assertIsNone(desk.live)

    def test_begin(self):
        desk = Desk()
        desk.say("rule " + TEXT.replace("1/2", "2/3"))
        for sizes, limit in (("1 1", "0"), ("1 2", "1"), ("3 3", "2"), ("4 12", "8"), ("99 99", "66")):
            self.says(desk, "begin " + sizes, limit)
            callers, servers = map(int, sizes.split())
            self.assertIs(type(desk.live), Live)
            self.assertEqual((desk.live.road, desk.live.rule, len(desk.live)), (Road(callers, servers), desk.own_rule, 0))
        desk.say("rule " + TEXT.replace("1/2 down", "2/3 up"))
        self.says(desk, "begin 1 10", "7")

    def test_do(self):
        desk = ready(TEXT, "1 2")
        row = ["turn 0 0 fault", "turn 0 0 fault", "turn 0 1 fault", "turn 0 1 fault", "turn 0 0 ok", "turn 0 1 fault"]
        for event, goals in zip(row, ("-", "-", "-", "kept", "-", "kept swap")):
            self.says(desk, "do " + event, goals)
        self.assertEqual(desk.live.road, Road(1, 2, row))
        desk = ready(UP, "1 1", "turn 0 0 fault")
        self.says(desk, "do turn 0 0 fault", "all")
        desk = ready(TEXT.replace("hears no", "hears out"), "2 2", "turn 0 0 fault", "turn 0 0 fault")
        self.says(desk, "do told 1 0 0", "-")
        self.says(desk, "show 1 0", "out 3 1")

    def test_show_in(self):
        desk = ready(TEXT.replace("2 of 2", "3 of 4"))
        for event, answer in (
            (None, "in - 0 0"), ("ok", "in o 0 0"), ("fault", "in ox 0 0"), ("fault", "in oxx 0 0"), ("ok", "in oxxo 0 0"),
            ("ok", "in xxoo 0 0"), ("ok", "in xooo 0 0"),
        ):
            if event is not None:
                desk.say(f"do turn 1 2 {event}")
            self.says(desk, "show 1 2", answer)
            self.says(desk, "show 0 2", "in - 0 0")
            self.says(desk, "show 1 1", "in - 0 0")

    def test_show_out_and_trial_and_calm(self):
        desk = ready(TRIAL, "1 2", "turn 0 1 fault", "turn 0 1 fault")
        for answer in ("out 3 1", "out 2 1", "out 1 1", "trial 1"):
            self.says(desk, "show 0 1", answer)
            desk.say("do turn 0 1 fault")
        self.says(desk, "show 0 1", "out 5 2")
        for _ in range(5):
            desk.say("do turn 0 1 ok")
        for answer in ("trial 2", "in - 2 0", "in o 2 1", "in oo 0 0"):
            self.says(desk, "show 0 1", answer)
            desk.say("do turn 0 1 ok")

    def test_show_all_that_comes(self):
        rng = random.Random(5)
        for text in (TEXT, TRIAL, TRIAL.replace("trial", "half").replace("2 of 2", "2 of 3")):
            desk = ready(text, "1 2")
            for _ in range(60):
                desk.say(f"do turn 0 0 {rng.choice(('ok', 'fault', 'fault'))}")
                standing = desk.live.played.standings[0][0]
                parts = [str(part) if type(part) is int else part for part in standing]
                if standing[0] == "in":
                    parts[1] = "".join("ox"[fault] for fault in standing[1]) or "-"
                self.says(desk, "show 0 0", " ".join(parts))

    def test_worst(self):
        desk = Desk()
        for text, felt, missed in ((TEXT, "1/2", "3/5"), (TEXT.replace("open", "trial"), "1/2", "3/4"), (NEVER, "1/1", "0/1")):
            desk.say("rule " + text)
            self.says(desk, "worst felt", felt)
            self.says(desk, "worst missed", missed)
        for made in some_rules(17):
            desk.say(f"rule {made}")
            for what in ("felt", "missed"):
                counted, of = worst(made, what)
                self.says(desk, f"worst {what}", f"{counted}/{of}")

    def test_numbers(self):
        desk = Desk()
        for text, answers in (
            (TEXT, ("never", "1 on", "2 on")), (UP, ("1 to 1", "2 on", "2 on")), (NEVER, ("never", "1 on", "never")),
            (TEXT.replace("1/2", "2/2"), ("1 on", "never", "never")), (UP.replace("1/2", "9/10"), ("1 to 9", "10 on", "10 on")),
            (TEXT.replace("1/2", "1/20"), ("never", "1 on", "20 on")),
        ):
            desk.say("rule " + text)
            for goal, answer in zip(GOALS, answers):
                self.says(desk, f"numbers {goal}", answer)

    def test_undo(self):
        desk = ready(TEXT, "1 2")
        self.says(desk, "undo", "nothing")
        desk.say("do turn 0 0 fault")
        desk.say("rule " + TRIAL)
        self.says(desk, "undo", "undone")
        self.assertEqual((desk.live.rule, desk.own_rule), (Rule.read(TEXT), Rule.read(TRIAL)))
        self.says(desk, "undo", "undone")
        self.assertEqual(desk.live.road, Road(1, 2))
        self.says(desk, "undo", "nothing")
        self.assertEqual(desk.own_rule, Rule.read(TRIAL))


class Rules(Case):
    def test_a_live_thing_changes_to_it(self):
        desk = ready(TEXT, "1 2", "turn 0 0 fault", "turn 0 0 fault")
        live = desk.live
        self.says(desk, "rule " + NEVER, "1")
        self.assertIs(desk.live, live)
        self.assertEqual((desk.own_rule, live.rule, len(live)), (Rule.read(NEVER), Rule.read(NEVER), 3))
        self.says(desk, "show 0 0", "in xx 0 0")
        self.says(desk, "rule " + NEVER, "1")
        self.assertEqual(len(live), 4)

    def test_what_is_asked_is_asked_of_the_own_rule(self):
        desk = ready(TEXT, "1 2")
        desk.say("rule " + NEVER)
        desk.say("undo")
        self.assertEqual((desk.own_rule, desk.live.rule), (Rule.read(NEVER), Rule.read(TEXT)))
        self.says(desk, "worst felt", "1/1")
        self.says(desk, "numbers swap", "never")
        self.says(desk, "begin 1 4", "0")
        self.assertEqual(desk.live.rule, Rule.read(NEVER))

    def test_begin_anew(self):
        desk = ready(TEXT, "1 2", "turn 0 0 fault")
        before = desk.live
        self.says(desk, "begin 2 5", "2")
        self.assertIsNot(desk.live, before)
        self.assertEqual((desk.live.road, len(desk.live)), (Road(2, 5), 0))
        self.says(desk, "undo", "nothing")
        self.assertEqual(before.road, Road(1, 2, ["turn 0 0 fault"]))

    def test_the_live_thing_may_be_used_by_itself(self):
        desk = ready(TEXT, "1 2")
        desk.live.several(["turn 0 0 fault", "turn 0 0 fault"])
        self.says(desk, "show 0 0", "out 3 1")
        with desk.live.trial():
            self.says(desk, "do turn 0 0 ok", "-")
            self.says(desk, "undo", "undone")
            self.says(desk, "undo", "undone")
            self.says(desk, "undo", "nothing")
        self.says(desk, "show 0 0", "out 3 1")

    def test_two_desks_keep_their_own(self):
        one, other = ready(TEXT, "1 2"), Desk()
        self.assertIsNone(other.own_rule)
        other.say("rule " + TRIAL)
        self.refuses(other, "undo")
        other.say("begin 3 4")
        one.say("do turn 0 0 fault")
        self.says(other, "show 0 0", "in - 0 0")
        self.assertEqual((one.own_rule, other.own_rule), (Rule.read(TEXT), Rule.read(TRIAL)))
        self.assertEqual((len(one.live), len(other.live)), (1, 0))


FORMS = (
    "rule " + TEXT, "begin 2 3", "do turn 0 0 ok", "show 0 0", "worst felt", "worst missed", "numbers all", "numbers kept",
    "numbers swap", "undo",
)


class Wrong(Case):
    def desks(self):
        first = Desk()
        second = Desk()
        second.say("rule " + TEXT)
        return first, second, ready(TEXT, "2 3", "turn 0 0 fault")

    def test_no_string(self):
        for desk in self.desks():
            for value in [value for value in values() if not isinstance(value, str)] + not_sequences():
                self.refuses(desk, value)
            for form in FORMS:
                for value in ([form], (form,), form.split(), tuple(form.split())):
                    self.refuses(desk, value)

    def test_newlines(self):
        for desk in self.desks():
            for form in FORMS:
                for value in (form + "\n", "\n" + form, form.replace(" ", "\n"), form.replace(" ", " \n", 1), form[:3] + "\n" + form[3:]):
                    if value != form:
                        self.refuses(desk, value)

    def test_empty_words(self):
        for desk in self.desks():
            for value in ("", " ", "  ", "   "):
                self.refuses(desk, value)
            for form in FORMS:
                for value in (form + " ", " " + form, form.replace(" ", "  ", 1), form + "  ", form.replace(" ", "  ")):
                    if value != form:
                        self.refuses(desk, value)

    def test_other_blanks(self):
        for desk in self.desks():
            for form in FORMS:
                words = form.split(" ", 1)
                for value in ("\t".join(words), form + "\t", "\t" + form, "\r".join(words), "\u00a0".join(words)):
                    if value != form and words[0] not in ("rule", "do"):
                        self.refuses(desk, value)
                if len(words) > 1:
                    self.refuses(desk, "\t".join(words))

    def test_words_too_few_or_too_many(self):
        for desk in self.desks():
            for form in FORMS:
                first = form.split()[0]
                if first != "undo":
                    self.refuses(desk, first)
                if first in ("begin", "show"):
                    self.refuses(desk, first + " 1")
                if first not in ("rule", "do"):
                    for more in ("0", "felt", "all", "x", "-"):
                        self.refuses(desk, f"{form} {more}")

    def test_other_words(self):
        for desk in self.desks():
            for value in (
                "Undo", "UNDO", "redo", "und", "undos", "undo!", "help", "-", "felt", "Rule " + TEXT, "rules " + TEXT, TEXT,
                "Begin 1 1", "start 1 1", "Do turn 0 0 ok", "turn 0 0 ok", "did turn 0 0 ok", "shows 0 0", "Show 0 0", "sick",
                "Worst felt", "worst Felt", "worst feel", "worst all", "worst fault", "worst 1", "number all", "numbers All",
                "numbers none", "numbers felt", "numbers 1", "road all", "happens all", "longest felt", "paper felt", "mends felt",
            ):
                self.refuses(desk, value)

    def test_numbers_in_another_form(self):
        for desk in self.desks():
            for bad in (
                "00", "01", "001", "100", "123", "+1", "-1", "-0", "1.0", "1.", "1e0", "0x1", "1_0", "a", "one", "\u0661", "\u00b2",
                "\uff11", "1\u0661", "\u00bd", "1,", "True", "None", "x1",
            ):
                for word in ("begin", "show"):
                    for value in (f"{word} {bad} 1", f"{word} 1 {bad}", f"{word} {bad} {bad}"):
                        self.refuses(desk, value)

    def test_too_early(self):
        first, second, third = self.desks()
        for form in FORMS:
            if not form.startswith("rule"):
                self.refuses(first, form)
            if form.split()[0] in ("do", "show", "undo"):
                self.refuses(second, form)
        # It comes ahead of the errors of what is begun and done.
        self.refuses(first, "begin 0 0")
        self.refuses(first, "do none")
        self.refuses(second, "do none")
        self.refuses(second, "do turn 9 9 ok")
        self.refuses(second, "show 0 0")
        for desk, commands in ((first, ["rule " + TEXT, *FORMS]), (second, FORMS), (third, FORMS)):
            for command in commands:
                if command.split()[0] in ("do", "show", "undo") and desk.live is None:
                    continue
                desk.say(command)

    def test_callers_and_servers_that_there_are_not(self):
        desk = ready(TEXT, "2 3")
        for caller, server in product(range(6), range(6)):
            if caller < 2 and server < 3:
                self.says(desk, f"show {caller} {server}", "in - 0 0")
            else:
                self.refuses(desk, f"show {caller} {server}")
        self.refuses(desk, "show 99 99")

    def test_rules_that_cannot_be_read(self):
        for desk in self.desks():
            for text in ("x", "leave", TEXT + " x", TEXT.replace("2", "02", 1), TEXT.replace("open", "close"), TEXT + "\t", "rule"):
                self.refuses(desk, "rule " + text, InvalidText, at=0)
            self.refuses(desk, "rule " + TEXT.replace("2 of 2", "3 of 2"), InvalidRule, word="of")
            self.refuses(desk, "rule " + TEXT.replace("1/2", "3/2"), InvalidRule, word="under")
            self.refuses(desk, "rule " + TEXT.replace("most 3", "most 1"), InvalidRule, word="most")

    def test_roads_that_cannot_be_begun(self):
        for desk in self.desks()[1:]:
            self.refuses(desk, "begin 0 1", InvalidRoad, word="callers")
            self.refuses(desk, "begin 1 0", InvalidRoad, word="servers")
            self.refuses(desk, "begin 0 0", InvalidRoad, word="callers")

    def test_events_that_cannot_be_done(self):
        desk = ready(TEXT, "2 3")
        for many in range(3):
            for event in ("x", "turn", "turn 0 0", "turn 0 3 ok", "turn 2 0 ok", "turn 0 0 OK", "told 0 0 0", "do turn 0 0 ok", "0\t0",
                          "turn 0 0 ok\t"):
                self.refuses(desk, "do " + event, InvalidEvent, at=many)
            self.refuses(desk, "do told 0 1 0", Refused, at=many)
            self.says(desk, "do turn 0 0 ok", "-")
        self.assertEqual(len(desk.live), 3)

    def test_rules_by_which_the_road_is_not_possible(self):
        desk = ready(TEXT, "2 3", "turn 0 0 fault", "turn 0 0 fault", "told 1 0 0")
        self.refuses(desk, "rule " + NEVER, Refused, at=2)
        self.refuses(desk, "rule " + TEXT.replace("2 of 2", "3 of 3"), Refused, at=2)
        self.assertEqual(desk.own_rule, Rule.read(TEXT))
        self.says(desk, "rule " + TRIAL, "3")
        self.assertEqual(desk.own_rule, desk.live.rule)

    def test_good_commands_are_answered_behind_it(self):
        for bad in (None, "", "undo ", "do none", "rule none", "begin 0 1", "show 7 7", "worst", "numbers", ["undo"]):
            desk = ready(TEXT, "1 2", "turn 0 0 fault")
            with self.assertRaises(SitError):
                desk.say(bad)
            self.says(desk, "do turn 0 0 fault", "-")
            self.says(desk, "show 0 0", "out 3 1")
            self.says(desk, "undo", "undone")
            self.says(desk, "worst felt", "1/2")
            self.says(desk, "show 0 0", "in x 0 0")
            self.says(desk, "begin 1 2", "1")


class Conventions(Case):
    def test_by_name(self):
        desk = Desk()
        self.assertEqual(desk.say(command="rule " + TEXT), "1")
        with self.assertRaises(InvalidCommand):
            desk.say(command=None)

    def test_a_desk_is_not_iterable(self):
        for desk in (Desk(), ready()):
            for read in (iter, list, tuple, sorted, set, enumerate):
                with self.assertRaises(TypeError):
                    read(desk)
            with self.assertRaises(TypeError):
                "undo" in desk

    def test_the_same_call_again(self):
        desk, other = ready(TRIAL, "1 2", "turn 0 0 fault"), ready()
        asked = ["show 0 0", "show 0 1", "worst felt", "worst missed", "numbers all", "numbers swap", "numbers kept"]
        first = [desk.say(command) for command in asked]
        other.say("do turn 0 0 fault"), other.say("worst felt"), other.say("rule " + NEVER)
        worst(Rule.read(NEVER), "felt"), numbers(Rule.read(UP), "all"), play(Rule.read(TEXT), Road(1, 1))
        self.assertEqual([desk.say(command) for command in asked], first)
        self.assertEqual(len(desk.live), 1)

    def test_soon_at_the_limits_and_beyond_them(self):
        desk = Desk()
        for text in (
            "leave 3 of 3 out 1 more 1 most 6 calm 3 back half share 19/20 up hears out",
            "leave 2 of 4 out 1 more 1 most 9 calm 6 back trial share 1/20 down hears fault",
        ):
            for command in (
                f"rule {text}", "begin 4 12", "worst felt", "worst missed", "numbers all", "numbers kept", "numbers swap",
                *[f"do turn {at % 4} {at % 12} fault" for at in range(90)], "show 3 11", "undo", f"rule {text}",
            ):
                start = perf_counter()
                desk.say(command)
                self.assertLess(perf_counter() - start, 1)


if __name__ == "__main__":
    unittest.main()
