"""Tests of [8] to [11]: standings, letters, and what each letter makes of a standing."""

import copy
import unittest
from itertools import permutations, product

from sitout.rules import Rule
from sitout.standings import begun, letters, standings, step
from tests import look

FAST = Rule.read("leave 2 of 2 out 3 more 0 most 3 calm 0 back open share 1/2 down hears no")
TRIED = Rule.read("leave 2 of 2 out 3 more 0 most 3 calm 0 back trial share 1/2 down hears no")

ALL = ("fault", "fault full", "ok", "told", "told full")


def rule(**changed):
    given = {
        "need": 2, "of": 3, "base": 2, "more": 3, "most": 6, "calm": 3, "back": "open",
        "top": 1, "under": 2, "up": False, "hears": "no",
    }
    return Rule(**{**given, **changed})


def window(text):
    return tuple(sign == "x" for sign in text)


def inside(text="", times=0, calm=0):
    return ("in", window(text), times, calm)


def many_rules():
    """Rules of many sorts, small ones and such as stand at the limits."""
    found = []
    counts = ((1, 1), (1, 2), (2, 2), (2, 3), (3, 3), (3, 4), (4, 4), (1, 4))
    paces = ((1, 0, 1, 0), (1, 1, 2, 1), (2, 2, 5, 2), (1, 9, 9, 3), (3, 1, 5, 6), (9, 0, 9, 2))
    for (need, of), (base, more, most, calm) in product(counts, paces):
        for at, (back, hears) in enumerate(product(("open", "half", "trial"), ("fault", "out", "no"))):
            top, under = ((1, 2), (0, 1), (1, 1), (0, 3), (3, 3), (2, 3), (1, 20))[(at + need + of + base) % 7]
            found.append(Rule(need, of, base, more, most, calm, back, top, under, at % 2 == 0, hears))
    return found


class Case(unittest.TestCase):
    def steps(self, made, standing, expected):
        """Each letter brings the pair that is told for it."""
        for letter, pair in expected.items():
            with self.subTest(rule=str(made), standing=standing, letter=letter):
                self.exactly(step(made, standing, letter), pair)

    def walk(self, made, row, standing=("in", (), 0, 0)):
        """The standing behind a row of letters."""
        for letter in row:
            standing, _ = step(made, standing, letter)
        return standing

    def exactly(self, value, expected):
        """Equal, and of the same kinds of values, as True is equal to 1."""
        self.assertEqual(value, expected)
        self.assertEqual(repr(value), repr(expected))


class Begun(Case):
    def test_begun(self):
        self.exactly(begun(), ("in", (), 0, 0))

    def test_again(self):
        self.exactly(begun(), begun())


class Windows(Case):
    def test_the_latest_answer_stands_behind(self):
        self.exactly(self.walk(rule(), ["fault", "ok"]), inside("xo"))
        self.exactly(self.walk(rule(), ["ok", "fault"]), inside("ox"))

    def test_at_most_of_answers(self):
        made = rule(need=4, of=4)
        self.exactly(self.walk(made, ["fault", "ok", "ok", "fault"]), inside("xoox"))
        self.exactly(self.walk(made, ["fault", "ok", "ok", "fault", "ok"]), inside("ooxo"))
        self.exactly(self.walk(made, ["fault", "ok", "ok", "fault", "ok", "fault"]), inside("oxox"))

    def test_one_answer_at_most(self):
        made = rule(need=1, of=1, top=0)
        self.exactly(self.walk(made, ["ok"]), inside("o"))
        self.exactly(self.walk(made, ["ok", "ok"]), inside("o"))
        self.exactly(self.walk(made, ["ok", "fault"]), inside("x"))
        self.exactly(self.walk(made, ["ok", "fault", "ok"]), inside("o"))

    def test_ok_at_first(self):
        self.exactly(step(rule(), begun(), "ok"), (inside("o"), "ok"))

    def test_windows_are_of_bools(self):
        for one in standings(rule(), ["full", "told"]):
            if one[0] == "in":
                self.assertTrue(all(isinstance(thing, bool) for thing in one[1]))


class Calm(Case):
    def test_ok_fills_calm_and_the_times_begin_anew(self):
        self.steps(rule(), inside("xo", 2, 2), {"ok": (inside("xoo"), "ok")})
        self.steps(rule(), inside("", 1, 2), {"ok": (inside("o"), "ok")})

    def test_the_window_stays_when_the_times_begin_anew(self):
        self.steps(rule(), inside("xox", 1, 2), {"ok": (inside("oxo"), "ok")})

    def test_ok_that_does_not_fill_it(self):
        self.steps(rule(), inside("x", 2, 0), {"ok": (inside("xo", 2, 1), "ok")})
        self.steps(rule(), inside("x", 2, 1), {"ok": (inside("xo", 2, 2), "ok")})

    def test_a_calm_of_one(self):
        self.steps(rule(calm=1), inside("x", 2), {"ok": (inside("xo"), "ok")})

    def test_calm_stays_while_there_are_no_times(self):
        self.exactly(self.walk(rule(), ["ok"] * 7), inside("ooo"))
        self.exactly(self.walk(rule(calm=1), ["ok"] * 7), inside("ooo"))

    def test_calm_stays_if_that_of_the_rule_is_0(self):
        self.exactly(self.walk(rule(calm=0), ["ok"] * 9, inside("", 2)), inside("ooo", 2))

    def test_a_fault_ends_calm(self):
        self.steps(rule(), inside("oo", 1, 2), {"fault": (inside("oox", 1), "felt")})
        self.exactly(self.walk(rule(), ["ok", "ok", "fault", "ok", "ok"], inside("", 2)), inside("xoo", 2, 2))
        self.exactly(self.walk(rule(), ["ok", "ok", "fault", "ok", "ok", "ok"], inside("", 2)), inside("ooo"))

    def test_the_ok_of_a_trial_does_not_count(self):
        made = rule(back="trial")
        self.exactly(self.walk(made, ["ok", "ok", "ok"], ("trial", 2)), inside("oo", 2, 2))
        self.exactly(self.walk(made, ["ok"] * 4, ("trial", 2)), inside("ooo"))

    def test_once_they_have_begun_anew(self):
        self.exactly(self.walk(rule(), ["fault", "fault"], inside("ooo")), ("out", 2, 1))
        self.exactly(self.walk(rule(), ["ok", "fault", "fault"], inside("o", 2, 2)), ("out", 2, 1))
        self.exactly(self.walk(rule(most=9), ["fault", "fault"], inside("", 2, 2)), ("out", 8, 3))


class Faults(Case):
    def test_too_few(self):
        self.steps(rule(), begun(), {"fault": (inside("x"), "felt"), "fault full": (inside("x"), "felt")})
        self.steps(rule(need=3, of=4), inside("xoo"), {"fault": (inside("xoox"), "felt")})

    def test_just_enough(self):
        self.steps(rule(), inside("x"), {"fault": (("out", 2, 1), "felt")})
        self.steps(rule(), inside("xo", 1, 1), {"fault": (("out", 5, 2), "felt")})
        self.steps(rule(need=1, of=1), begun(), {"fault": (("out", 2, 1), "felt")})
        self.steps(rule(need=4, of=4), inside("xxx"), {"fault": (("out", 2, 1), "felt")})

    def test_old_faults_that_have_left_the_window(self):
        self.steps(rule(), inside("xoo"), {"fault": (inside("oox"), "felt"), "fault full": (inside("oox"), "felt")})
        self.steps(rule(), inside("oxo"), {"fault": (("out", 2, 1), "felt")})
        self.steps(rule(need=2, of=2), inside("xo"), {"fault": (inside("ox"), "felt")})

    def test_kept_without_room(self):
        self.steps(rule(), inside("ox", 1), {"fault full": (inside("oxx", 1), "felt")})
        self.steps(rule(), inside("xoo", 1, 2), {"fault full": (inside("oox", 1), "felt")})
        self.steps(rule(), inside("oxo", 1, 1), {"fault full": (inside("xox", 1), "felt")})

    def test_the_next_fault_tries_again(self):
        kept = self.walk(rule(), ["fault", "fault full"])
        self.exactly(kept, inside("xx"))
        self.steps(rule(), kept, {"fault": (("out", 2, 1), "felt"), "fault full": (inside("xxx"), "felt")})

    def test_the_next_ok_does_not_try(self):
        self.steps(rule(), inside("xx"), {"ok": (inside("xxo"), "ok")})
        self.steps(rule(), inside("xxx"), {"ok": (inside("xxo"), "ok")})

    def test_the_next_fault_does_not_try_if_there_are_no_longer_enough(self):
        self.steps(rule(), self.walk(rule(), ["fault", "fault full", "ok", "ok"]), {"fault": (inside("oox"), "felt")})
        self.steps(rule(), self.walk(rule(), ["fault", "fault full", "ok"]), {"fault": (("out", 2, 1), "felt")})

    def test_kept_ones_do_not_count_as_times(self):
        self.exactly(self.walk(rule(), ["fault"] + ["fault full"] * 5 + ["fault"]), ("out", 2, 1))


class Times(Case):
    def test_each_time_is_longer_up_to_the_cap(self):
        made = rule(most=9)
        self.assertEqual(made.cap, 4)
        found = []
        for times in range(5):
            behind, _ = step(made, inside("x", min(times, 4)), "fault")
            found.append(behind)
        self.exactly(found, [("out", 2, 1), ("out", 5, 2), ("out", 8, 3), ("out", 9, 4), ("out", 9, 4)])

    def test_a_cap_of_one(self):
        self.steps(FAST, inside("x", 1), {"fault": (("out", 3, 1), "felt")})
        self.steps(FAST, inside("x", 0), {"fault": (("out", 3, 1), "felt")})


class Out(Case):
    def test_a_turn_that_leaves_some(self):
        for back in ("open", "half", "trial"):
            expected = {
                "ok": (("out", 1, 2), "missed"), "fault": (("out", 1, 2), "skip"),
                "fault full": (("out", 1, 2), "skip"), "told": (("out", 2, 2), "told"),
                "told full": (("out", 2, 2), "told"),
            }
            self.steps(rule(back=back), ("out", 2, 2), expected)
            self.steps(rule(back=back), ("out", 6, 2), {"ok": (("out", 5, 2), "missed")})

    def last(self, back, behind, **changed):
        expected = {"ok": (behind, "missed"), "fault": (behind, "skip"), "fault full": (behind, "skip")}
        self.steps(rule(back=back, **changed), ("out", 1, 2), expected)

    def test_the_last_turn(self):
        self.last("open", inside("", 2))
        self.last("half", inside("x", 2))
        self.last("trial", ("trial", 2))

    def test_half_for_several_needs(self):
        for need, answers in ((1, ""), (2, "x"), (3, "x"), (4, "xx"), (5, "xx"), (6, "xxx")):
            self.last("half", inside(answers, 2), need=need, of=need)
            self.last("half", inside(answers, 2), need=need, of=need + 1)
            self.last("open", inside("", 2), need=need, of=need)

    def test_left_out_again_from_half(self):
        made = rule(need=4, of=4, back="half")
        self.exactly(self.walk(made, ["ok", "fault", "fault"], ("out", 1, 1)), ("out", 5, 2))
        self.exactly(self.walk(made, ["ok", "fault", "ok", "fault"], ("out", 1, 1)), inside("xxox", 1))

    def test_left_out_again_from_open(self):
        self.exactly(self.walk(rule(), ["fault", "fault"], ("out", 1, 1)), inside("x", 1))
        self.exactly(self.walk(rule(), ["fault", "fault", "fault"], ("out", 1, 1)), ("out", 5, 2))

    def test_the_whole_of_it(self):
        row = ["fault", "fault", "ok", "fault", "ok"]
        standing, whats = begun(), []
        for letter in row:
            standing, what = step(rule(base=3, most=3), standing, letter)
            whats.append(what)
        self.exactly(standing, inside("", 1))
        self.assertEqual(whats, ["felt", "felt", "missed", "skip", "missed"])


class Trial(Case):
    def test_ok(self):
        self.steps(rule(back="trial"), ("trial", 2), {"ok": (inside("", 2), "ok")})
        self.steps(rule(back="trial", calm=1), ("trial", 2), {"ok": (inside("", 2), "ok")})

    def test_fault(self):
        made = rule(back="trial", most=9)
        for times, behind in ((1, ("out", 5, 2)), (2, ("out", 8, 3)), (3, ("out", 9, 4)), (4, ("out", 9, 4))):
            self.steps(made, ("trial", times), {"fault": (behind, "felt"), "fault full": (behind, "felt")})

    def test_one_fault_is_enough(self):
        self.steps(rule(back="trial", need=4, of=4), ("trial", 1), {"fault": (("out", 5, 2), "felt")})

    def test_a_word_means_nothing(self):
        for hears in ("fault", "out", "no"):
            made = rule(back="trial", hears=hears, need=1)
            self.steps(made, ("trial", 2), {"told": (("trial", 2), "told"), "told full": (("trial", 2), "told")})

    def test_no_room_is_needed(self):
        for top, under in ((0, 1), (1, 1), (1, 2)):
            made = rule(back="trial", top=top, under=under)
            self.steps(made, ("trial", 1), {"fault": (("out", 5, 2), "felt"), "fault full": (("out", 5, 2), "felt")})


class Words(Case):
    def test_as_a_fault(self):
        made = rule(hears="fault")
        self.steps(made, begun(), {"told": (inside("x"), "told"), "told full": (inside("x"), "told")})
        self.steps(made, inside("x"), {"told": (("out", 2, 1), "told"), "told full": (inside("xx"), "told")})
        self.steps(made, inside("oxo", 1, 1), {"told": (("out", 5, 2), "told"), "told full": (inside("xox", 1), "told")})
        self.steps(made, inside("xoo", 1, 2), {"told": (inside("oox", 1), "told"), "told full": (inside("oox", 1), "told")})

    def test_at_once(self):
        made = rule(hears="out")
        for standing in (begun(), inside("o"), inside("xoo"), inside("xx")):
            self.steps(made, standing, {"told": (("out", 2, 1), "told"), "told full": (standing, "told")})
        for standing in (inside("", 1), inside("oo", 1, 2), inside("xo", 1, 1), inside("xxx", 1)):
            self.steps(made, standing, {"told": (("out", 5, 2), "told"), "told full": (standing, "told")})
        self.steps(made, inside("", 2), {"told": (("out", 6, 3), "told")})
        self.steps(made, inside("", 3, 2), {"told": (("out", 6, 3), "told"), "told full": (inside("", 3, 2), "told")})

    def test_for_nothing(self):
        made = rule(hears="no", need=1)
        for standing in (begun(), inside("x"), inside("oo", 1, 2), inside("xxx", 2)):
            self.steps(made, standing, {"told": (standing, "told"), "told full": (standing, "told")})

    def test_for_a_server_that_is_out(self):
        for hears, back in product(("fault", "out", "no"), ("open", "half", "trial")):
            made = rule(hears=hears, back=back)
            for left in (1, 2):
                standing = ("out", left, 1)
                self.steps(made, standing, {"told": (standing, "told"), "told full": (standing, "told")})


class Room(Case):
    def test_never(self):
        for up, under in product((True, False), (1, 2, 20)):
            made = rule(top=0, under=under, up=up, hears="fault")
            self.steps(made, inside("x"), {
                "fault": (inside("xx"), "felt"), "fault full": (inside("xx"), "felt"),
                "told": (inside("xx"), "told"), "told full": (inside("xx"), "told"),
            })
            made = rule(top=0, under=under, up=up, hears="out")
            self.steps(made, inside("x", 1, 0), {letter: (inside("x", 1), "told") for letter in ("told", "told full")})

    def test_always(self):
        for up, many in product((True, False), (1, 2, 20)):
            made = rule(top=many, under=many, up=up, hears="fault")
            self.steps(made, inside("x"), {
                "fault": (("out", 2, 1), "felt"), "fault full": (("out", 2, 1), "felt"),
                "told": (("out", 2, 1), "told"), "told full": (("out", 2, 1), "told"),
            })
            made = rule(top=many, under=many, up=up, hears="out")
            self.steps(made, begun(), {letter: (("out", 2, 1), "told") for letter in ("told", "told full")})

    def test_as_the_letter_tells(self):
        for top, under, up in ((1, 2, False), (1, 20, False), (19, 20, True), (1, 3, True)):
            made = rule(top=top, under=under, up=up)
            self.steps(made, inside("x"), {"fault": (("out", 2, 1), "felt"), "fault full": (inside("xx"), "felt")})


class Step(Case):
    def test_the_example_of_the_document(self):
        self.exactly(step(FAST, ("in", (False, True), 0, 0), "fault"), (("out", 3, 1), "felt"))
        self.exactly(step(FAST, ("out", 1, 1), "ok"), (("in", (), 1, 0), "missed"))
        self.exactly(step(TRIED, ("trial", 1), "fault"), (("out", 3, 1), "felt"))

    def test_all_letters_for_all_forms_of_standings(self):
        for made in many_rules():
            for standing, letter in product(look.forms(made), ALL):
                value, expected = step(made, standing, letter), look.look_step(made, standing, letter)
                if value != expected or repr(value) != repr(expected):
                    self.fail(f"{made}: {standing} {letter}: {value}, not {expected}")

    def test_arguments_by_name(self):
        found = step(rule=FAST, standing=("out", 3, 1), letter="ok")
        self.exactly(found, (("out", 2, 1), "missed"))
        self.exactly(step(letter="ok", standing=("out", 3, 1), rule=FAST), found)

    def test_the_same_call_again_and_nothing_changed(self):
        for hears in ("fault", "out", "no"):
            made = rule(hears=hears, back="trial")
            text, attributes = str(made), copy.deepcopy(vars(made))
            for standing in (begun(), inside("xx", 1, 0), inside("xo", 2, 1), ("out", 1, 1), ("trial", 2)):
                before = copy.deepcopy(standing)
                for letter in ALL:
                    first = step(made, standing, letter)
                    self.exactly(step(made, standing, letter), first)
                    self.exactly(standing, before)
            self.assertEqual((str(made), vars(made)), (text, attributes))


class Letters(Case):
    def test_for_each_free(self):
        self.exactly(letters(), ("fault", "ok"))
        self.exactly(letters(()), ("fault", "ok"))
        self.exactly(letters(["told"]), ("fault", "ok", "told"))
        self.exactly(letters(["full"]), ("fault", "fault full", "ok"))
        self.exactly(letters(["full", "told"]), ALL)

    def test_order_repetition_and_kind(self):
        for many in range(4):
            for free in product(("full", "told"), repeat=many):
                kept = [letter for letter in ALL if ("full" in free or "full" not in letter)]
                kept = tuple(letter for letter in kept if ("told" in free or "told" not in letter))
                for value in (free, list(free)):
                    with self.subTest(free=value):
                        self.exactly(letters(value), kept)
                        self.exactly(letters(free=value), kept)

    def test_nothing_is_changed(self):
        free = ["told", "full", "told"]
        letters(free)
        self.assertEqual(free, ["told", "full", "told"])


class Standings(Case):
    def test_the_example_of_the_document(self):
        self.assertEqual(letters(["full"]), ("fault", "fault full", "ok"))
        self.assertEqual((len(standings(FAST)), len(standings(FAST, ["full"]))), (15, 17))

    def test_a_small_one_in_full(self):
        made = rule(need=1, of=1, base=2, more=0, most=2, calm=0)
        plain = (
            inside("", 0), inside("", 1), inside("o", 0), inside("o", 1), ("out", 1, 1), ("out", 2, 1),
        )
        full = plain[:4] + (inside("x", 0), inside("x", 1)) + plain[4:]
        self.exactly(standings(made), plain)
        self.exactly(standings(made, ["told"]), plain)
        self.exactly(standings(made, ["full"]), full)
        self.exactly(standings(made, ["told", "full"]), full)

    def test_a_small_one_with_trials_and_calm(self):
        made = rule(need=1, of=1, base=1, more=1, most=2, calm=2, back="trial", top=1, under=1)
        expected = (
            inside("", 0), inside("", 1), inside("", 2), inside("o", 0), inside("o", 1, 1), inside("o", 2, 1),
            ("out", 1, 1), ("out", 1, 2), ("out", 2, 2), ("trial", 1), ("trial", 2),
        )
        for free in ((), ["full"], ("told",), ["full", "told"]):
            self.exactly(standings(made, free), expected)

    def test_words_bring_what_else_does_not_come(self):
        made = rule(need=2, of=2, base=1, more=0, most=1, calm=0, hears="out", back="half")
        self.assertNotIn(inside("xx", 0), standings(made, ["told"]))
        self.assertIn(inside("xx", 0), standings(made, ["full"]))
        # A word that counts as a fault brings no more than faults do.
        made = rule(hears="fault")
        self.exactly(standings(made, ["told"]), standings(made))

    def test_nobody_is_left_out_without_places(self):
        made = rule(need=1, of=2, top=0, hears="out")
        expected = tuple(sorted(inside(text) for text in ("", "o", "x", "oo", "ox", "xo", "xx")))
        for free in ((), ["full"], ["told"], ["told", "full"]):
            self.exactly(standings(made, free), expected)

    def test_all_that_come_and_no_other_for_many_rules(self):
        for made in many_rules():
            for free in ((), ("full",), ("told",), ("full", "told")):
                found = standings(made, free)
                expected = tuple(sorted(look.look_standings(made, letters(free))))
                if found != expected or repr(found) != repr(expected):
                    self.fail(f"{made} {free}")

    def test_each_order_repetition_and_kind(self):
        for hears in ("out", "fault", "no"):
            made = rule(hears=hears, back="half", need=3)
            for words in ((), ("full",), ("told",), ("full", "told")):
                expected = standings(made, words)
                for order in permutations(words):
                    for free in (order, list(order), order * 2, list(order) * 3):
                        self.exactly(standings(made, free), expected)
                        self.exactly(standings(rule=made, free=free), expected)

    def test_begun_is_always_there_and_all_are_of_the_form(self):
        for made in many_rules()[::5]:
            found, right = standings(made, ["full", "told"]), look.forms(made)
            self.assertIn(begun(), found)
            self.assertLessEqual(set(found), set(right))
            self.assertIs(type(found), tuple)
            self.assertEqual(len(found), len(set(found)))

    def test_nothing_is_changed_and_the_same_call_again(self):
        free = ["told", "full"]
        first = standings(FAST, free)
        self.assertEqual(free, ["told", "full"])
        self.exactly(standings(FAST, free), first)

    def test_at_the_limits_and_beyond_them(self):
        great = Rule(4, 4, 1, 1, 9, 6, "half", 10, 20, True, "fault")
        self.assertEqual(len(standings(great, ["full", "told"])), len(look.look_standings(great, ALL)))
        beyond = Rule(5, 5, 2, 1, 12, 8, "trial", 11, 25, False, "out")
        self.assertEqual(len(standings(beyond, ["full", "told"])), len(look.look_standings(beyond, ALL)))


if __name__ == "__main__":
    unittest.main()
