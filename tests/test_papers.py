"""Tests of [17]: papers, and whether any value is a right one."""

import random
import unittest
from fractions import Fraction
from time import perf_counter

from sitout.errors import InvalidWhat
from sitout.papers import paper, paper_holds
from sitout.rates import round_of, worst
from sitout.rules import Rule
from sitout.standings import begun, standings, step
from tests import look
from tests.look_rounds import (
    FREES, LETTERS, WHATS, further_heights, look_right, look_worst, read, some_rules, turns,
)
from tests.samples import nested, no_whats, values

FAST = Rule.read("leave 2 of 2 out 3 more 0 most 3 calm 0 back open share 1/2 down hears no")
GROWING = Rule.read("leave 2 of 3 out 1 more 1 most 3 calm 2 back trial share 1/2 down hears out")
HALF = Rule.read("leave 3 of 3 out 2 more 3 most 5 calm 3 back half share 2/3 up hears fault")
FULL = ("full", "told")


def exchanged(value, at, entry):
    """A paper with another entry in the place of one."""
    return value[:at] + (entry,) + value[at + 1:]


class Case(unittest.TestCase):
    def told(self, made, what, share, free):
        """There is a paper just if the worst share is not above the share, and it is right."""
        found = paper(made, what, share, free)
        if Fraction(*worst(made, what, free)) > Fraction(*share):
            self.assertIsNone(found)
            return
        self.assertTrue(look_right(made, what, share, found, free), found)
        self.assertIs(paper_holds(made, what, share, found, free), True)

    def holds_not(self, value, made=FAST, what="felt", share=(1, 2), free=()):
        with self.subTest(value=value, rule=str(made)):
            self.assertIs(paper_holds(made, what, share, value, free), False)


class Told(Case):
    def test_the_example_of_the_document(self):
        self.assertIs(paper_holds(FAST, "felt", (1, 2), paper(FAST, "felt", (1, 2))), True)
        self.assertIsNone(paper(FAST, "felt", (2, 5)))
        self.assertIs(paper_holds(FAST, "felt", (1, 2), ()), False)

    def test_many_rules_and_shares(self):
        for at, made in enumerate(some_rules(5, 1)):
            for free in FREES:
                for what in WHATS:
                    counted, of = worst(made, what, free)
                    with self.subTest(rule=str(made), what=what, free=free):
                        self.told(made, what, (counted, of), free)
                        self.told(made, what, (counted * (at % 7 + 1), of * (at % 7 + 1)), free)
                        self.told(made, what, (counted * 90 + 1, of * 90), free)
                        self.told(made, what, (max(counted * 90 - 1, 0), of * 90), free)
                        self.told(made, what, (at % 4, at % 5 + 1), free)

    def test_against_the_look(self):
        for made in some_rules(11):
            for free in FREES:
                rows = turns(made, free)
                for what in WHATS:
                    expected = look_worst(rows, what)
                    for share in ((0, 1), (1, 4), (1, 3), (2, 6), (1, 2), (3, 5), (2, 3), (6, 8), (1, 1), (3, 2)):
                        with self.subTest(rule=str(made), what=what, free=free, share=share):
                            self.assertIs(paper(made, what, share, free) is None, expected > Fraction(*share))

    def test_just_at_it_and_just_below_it(self):
        for share in ((1, 2), (2, 4), (500, 1000), (50001, 100000)):
            self.assertIsNotNone(paper(FAST, "felt", share))
        for share in ((0, 1), (0, 9), (49, 100), (49999, 100000), (499999, 1000000)):
            self.assertIsNone(paper(FAST, "felt", share))

    def test_nothing_and_all(self):
        never = Rule.read(str(FAST).replace("1/2", "0/2"))
        for free in FREES:
            for share in ((0, 1), (0, 7), (1, 9)):
                self.told(never, "missed", share, free)
                self.assertIsNotNone(paper(never, "missed", share, free))
                self.assertIsNone(paper(never, "felt", share, free))
            for share in ((1, 1), (6, 6), (7, 6), (9, 1), (99, 2)):
                for made in (never, FAST, GROWING, HALF):
                    for what in WHATS:
                        self.told(made, what, share, free)
                        self.assertIsNotNone(paper(made, what, share, free))

    def test_kinds(self):
        for free in FREES:
            found = paper(GROWING, "missed", (1, 1), free)
            self.assertIs(type(found), tuple)
            for entry in found:
                self.assertIs(type(entry), tuple)
                self.assertEqual((len(entry), type(entry[0]), type(entry[1])), (2, tuple, int))

    def test_it_is_some_right_one_whatever_free_is(self):
        for made in (FAST, GROWING, HALF):
            for free in ([], ["full"], ["told"], ["told", "full"], ("told", "full")):
                for what in WHATS:
                    self.assertIs(paper_holds(made, what, (1, 1), paper(made, what, (1, 1), free), free), True)


class Holds(Case):
    def test_in_another_order(self):
        rng = random.Random(4)
        for made in (FAST, GROWING, HALF):
            share = worst(made, "missed", FULL)
            entries = list(paper(made, "missed", share, FULL))
            for _ in range(5):
                rng.shuffle(entries)
                self.assertIs(paper_holds(made, "missed", share, tuple(entries), FULL), True)

    def test_for_greater_shares_and_other_terms(self):
        for made in (FAST, GROWING, HALF):
            for what in WHATS:
                counted, of = worst(made, what)
                value = paper(made, what, (counted * 10, of * 10))
                for share in ((counted * 10, of * 10), (counted * 10 + 1, of * 10), (of * 10, of * 10), (of * 50, of * 10)):
                    self.assertIs(paper_holds(made, what, share, value), True)
                self.assertIs(paper_holds(made, what, (counted * 10 - 1, of * 10), value), False)

    def test_heights_go_with_the_terms_of_the_share(self):
        value = paper(FAST, "felt", (1, 2))
        twice = tuple((standing, 2 * height) for standing, height in value)
        self.assertIs(paper_holds(FAST, "felt", (2, 4), twice), True)
        self.assertIs(paper_holds(FAST, "felt", (2, 4), value), False)

    def test_for_fewer_letters(self):
        for made in (FAST, GROWING, HALF):
            for what in WHATS:
                value = paper(made, what, (1, 1), FULL)
                for free in FREES:
                    self.assertIs(paper_holds(made, what, (1, 1), value, free), True)

    def test_not_for_more_letters(self):
        self.assertIs(paper_holds(FAST, "felt", (1, 2), paper(FAST, "felt", (1, 2)), ["full"]), False)
        told = Rule.read(str(FAST).replace("hears no", "hears out"))
        value = paper(told, "missed", (3, 5))
        self.assertIs(paper_holds(told, "missed", (3, 5), value), True)
        self.assertIs(paper_holds(told, "missed", (3, 5), value, ["told"]), False)

    def test_not_for_the_other_word_or_another_rule(self):
        value = paper(FAST, "felt", (1, 2))
        self.assertIs(paper_holds(FAST, "missed", (1, 2), value), False)
        for word, changed in (("back open", "back trial"), ("leave 2", "leave 1"), ("out 3", "out 2"), ("share 1", "share 0")):
            other = Rule.read(str(FAST).replace(word, changed))
            self.assertIs(paper_holds(other, "felt", (1, 2), value), look_right(other, "felt", (1, 2), value, ()))
        self.assertIs(paper_holds(Rule.read(str(FAST).replace("share 1", "share 0")), "felt", (1, 2), value), False)
        self.assertIs(paper_holds(Rule.read(str(FAST).replace("back open", "back trial")), "felt", (1, 2), value), False)

    def test_all_heights_may_be_higher_or_below_0(self):
        for many in (1, 1000, -1000, 10 ** 7):
            value = tuple((standing, height + many) for standing, height in paper(FAST, "felt", (1, 2)))
            self.assertIs(paper_holds(FAST, "felt", (1, 2), value), True)

    def test_with_standings_that_do_not_come(self):
        for made in (FAST, GROWING, HALF):
            for what in WHATS:
                for free in FREES:
                    value = paper(made, what, (1, 1), free)
                    come = dict(value)
                    for one in look.forms(made)[::5] + [("trial", made.cap), ("out", made.time(made.cap), 1)]:
                        more = further_heights(made, what, (1, 1), value, free, [one])
                        with self.subTest(rule=str(made), standing=one, free=free):
                            self.assertIs(paper_holds(made, what, (1, 1), more, free), True)
                            if one not in come:
                                self.assertGreater(len(more), len(value))
                                low = tuple((place, -10 ** 9 if place == one else height) for place, height in more)
                                self.assertIs(paper_holds(made, what, (1, 1), low, free), False)

    def test_with_all_that_has_the_form(self):
        for made in (FAST, GROWING, HALF):
            value = further_heights(made, "felt", (1, 1), paper(made, "felt", (1, 1)), FULL, look.forms(made))
            self.assertEqual(len(value), len(look.forms(made)))
            for free in FREES:
                self.assertIs(paper_holds(made, "felt", (1, 1), value, free), True)

    def test_each_change_of_an_entry(self):
        """Left out, twice, a height higher or lower: against the look."""
        for made, what, free in ((FAST, "felt", ()), (GROWING, "missed", ("told",)), (HALF, "felt", FULL), (FAST, "missed", FULL)):
            share = worst(made, what, free)
            value = paper(made, what, share, free)
            refused = 0
            for at, (standing, height) in enumerate(value):
                for other in (
                    value[:at] + value[at + 1:], value + (value[at],),
                    exchanged(value, at, (standing, height + 1)), exchanged(value, at, (standing, height - 1)),
                    exchanged(value, at, (standing, height + 1000)), exchanged(value, at, (standing, height - 1000)),
                ):
                    expected = look_right(made, what, share, other, free)
                    refused += not expected
                    with self.subTest(rule=str(made), at=at):
                        self.assertIs(paper_holds(made, what, share, other, free), expected)
            self.assertGreater(refused, len(value) * 3)

    def test_a_height_one_too_low_on_the_worst_round(self):
        for made in (FAST, GROWING, HALF):
            for what in WHATS:
                share = worst(made, what)
                ahead, row = round_of(made, what)
                value = paper(made, what, share)
                place, _ = read(made, ahead)
                for letter in row:
                    at = [standing for standing, _ in value].index(place)
                    if len(row) > 1:
                        self.holds_not(exchanged(value, at, (place, value[at][1] - 1)), made, what, share)
                        self.holds_not(exchanged(value, at, (place, value[at][1] + 1)), made, what, share)
                    place, _ = read(made, [letter], place)


class HoldsNot(Case):
    def test_no_value_of_another_form(self):
        others = [nested(10), [[]], ((),), (None,), (begun(),), (begun(), 0), ((begun(), 0),), "paper", ("in",), [()]]
        for value in values() + others + [FAST, worst(FAST, "felt"), paper(FAST, "felt", (0, 1))]:
            for free in ((), FULL):
                for what in WHATS:
                    for share in ((1, 2), (1, 1), (5, 1)):
                        self.holds_not(value, FAST, what, share, free)

    def test_no_tuple(self):
        value = paper(FAST, "felt", (1, 2))
        for other in (list(value), [value], (value,), dict(value), str(value), (list(value),)):
            self.holds_not(other)

    def test_entries_that_are_no_pairs(self):
        value = paper(FAST, "felt", (1, 2))
        for at, (standing, height) in enumerate(value):
            for entry in (
                [standing, height], (standing,), (standing, height, 0), (standing, height, height), (), standing, height, None,
                (height, standing), "in", "ab", ("a", "b"), FAST, True, ((standing, height),), (standing, [height]),
            ):
                self.holds_not(exchanged(value, at, entry))

    def test_a_standing_twice(self):
        value = paper(FAST, "felt", (1, 2))
        for at, (standing, height) in enumerate(value):
            self.holds_not(value + ((standing, height),))
            self.holds_not(((standing, height + 9),) + value)
            self.holds_not(value[:at] + (value[at],) + value[at:])

    def test_begun_missing(self):
        self.holds_not((), share=(1, 1))
        value = paper(FAST, "felt", (1, 1))
        self.holds_not(tuple(entry for entry in value if entry[0] != begun()), share=(1, 1))
        never = Rule.read(str(FAST).replace("1/2", "0/2"))
        value = paper(never, "missed", (0, 1))
        self.assertIs(paper_holds(never, "missed", (0, 1), value), True)
        self.holds_not(tuple(entry for entry in value if entry[0] != begun()), never, "missed", (0, 1))

    def test_a_standing_behind_missing(self):
        for made in (FAST, GROWING, HALF):
            for free in FREES:
                value = paper(made, "felt", (1, 1), free)
                for at in range(len(value)):
                    self.holds_not(value[:at] + value[at + 1:], made, "felt", (1, 1), free)

    def test_heights_that_are_no_integers(self):
        value = paper(FAST, "felt", (1, 2))
        self.assertIn(0, [height for _, height in value])
        for at, (standing, height) in enumerate(value):
            for other in (None, str(height), [height], (height,), True, False, FAST, bool(height), [], ""):
                self.holds_not(exchanged(value, at, (standing, other)))

    def test_a_bool_where_its_number_would_do(self):
        for number, other in ((0, False), (1, True)):
            value = paper(FAST, "felt", (1, 2))
            value = tuple((standing, height - value[0][1] + number) for standing, height in value)
            self.assertIs(paper_holds(FAST, "felt", (1, 2), value), True)
            self.holds_not(exchanged(value, 0, (value[0][0], other)))

    def test_standings_in_another_form(self):
        for made in (FAST, GROWING, HALF):
            value = further_heights(made, "felt", (1, 1), paper(made, "felt", (1, 1)), FULL, look.forms(made))
            self.assertIs(paper_holds(made, "felt", (1, 1), value, FULL), True)
            for at in range(0, len(value), 7):
                standing, height = value[at]
                for other in self.others(made, standing):
                    self.holds_not(exchanged(value, at, (other, height)), made, "felt", (1, 1), FULL)
                    # Nor may it stand there besides.
                    self.holds_not(value + ((other, height + 99),), made, "felt", (1, 1), FULL)

    def others(self, made, standing):
        """Things near to a standing that have not its form."""
        kind, *rest = standing
        found = [list(standing), standing + (0,), standing[:-1], (standing,), (), None, kind, (kind,), [], 3, True, made]
        found += [(word, *rest) for word in ("", "In", "In ", "on", "outs", "trials", "begun", None, 0, ["in"], ("in",))]
        found += [(word, *rest) for word in ("in", "out", "trial") if word != kind]
        for at, part in enumerate(rest, 1):
            wrong = (None, "", "1", [], [1], (1,), True, False, -1, -9, 10 ** 6, made)
            found += [standing[:at] + (other,) + standing[at + 1:] for other in wrong if repr(other) != repr(part)]
        if kind == "in":
            found += self.other_windows(made, standing)
            found.append(standing[:2] + (made.cap + 1, 0))
            found.append(standing[:3] + (max(made.calm, 1),))
            found.append(("in", standing[1], 0, 1))
        if kind == "out":
            greatest = made.time(made.cap)
            found += [("out", 0, rest[1]), ("out", greatest + 1, rest[1]), ("out", rest[0], 0), ("out", rest[0], made.cap + 1)]
        if kind == "trial":
            found += [("trial", 0), ("trial", made.cap + 1)]
        return found

    def other_windows(self, made, standing):
        _, window, times, calm = standing
        many = made.of + 1
        windows = [list(window), (True,) * many, (False,) * many, window + (0,) * (many - len(window)), None, "", 0, False]
        windows += [window[:at] + (int(window[at]),) + window[at + 1:] for at in range(len(window))]
        windows += [window[:-1] + (other,) for other in (None, "x", "", 0, 1, 2, [], (), (True,))]
        return [("in", other, times, calm) for other in windows]

    def test_one_form_after_another_by_itself(self):
        made, free = GROWING, ("told",)
        value = paper(made, "felt", (1, 1), free)
        self.assertEqual(sorted(standing for standing, _ in value), list(standings(made, free)))
        for other in (
            ("in", [], 0, 0), ["in", (), 0, 0], ("in", (), False, 0), ("in", (), 0, False), ("in", (0,), 0, 0),
            ("in", (1,), 0, 0), ("in", (True, False, True, False), 0, 0), ("in", (), 4, 0), ("in", (), -1, 0),
            ("in", (), 0, 1), ("in", (), 1, 2), ("in", (), 1, -1), ("in", (), 1, True), ("in", (), True, 0),
            ("out", 4, 1), ("out", 0, 1), ("out", True, 1), ("out", 1, True), ("out", 1, 0), ("out", 1, 4), ("out", 1),
            ("out", 1, 1, 0), ("trial", 0), ("trial", 4), ("trial", True), ("trial",), ("trial", 1, 0), ("trial", "1"),
            ("IN", (), 0, 0), ("off", 1, 1), ("in", (), 0), ("in", (), 0, 0, 0), ("in", None, 0, 0), ("in", (), None, 0),
        ):
            self.holds_not(value + ((other, 10 ** 5),), made, "felt", (1, 1), free)

    def closed(self, made, value, standing):
        """A paper for the share (1, 1) with a standing, and all that come from it by step, put in at its height."""
        heights = dict(value)
        waiting = [standing]
        while waiting:
            one = waiting.pop()
            if one not in heights:
                heights[one] = 10 ** 5
                waiting += [step(made, one, letter)[0] for letter in LETTERS[FULL]]
        return tuple(heights.items())

    def test_all_is_right_but_the_form(self):
        """By shares of 1 no letter goes down, so all that is missing is the form."""
        never = Rule.read(str(FAST).replace("1/2", "0/2"))
        for made in (FAST, GROWING, HALF, never, Rule.read(str(HALF).replace("fault", "no"))):
            value = tuple((standing, 10 ** 5) for standing, _ in paper(made, "felt", (1, 1), FULL))
            cap, greatest = made.cap, made.time(made.cap)
            for good in (("out", greatest, cap), ("out", 1, 1), ("trial", 1), ("trial", cap), ("in", (), cap, 0), begun()):
                for what in WHATS:
                    self.assertIs(paper_holds(made, what, (1, 1), self.closed(made, value, good), FULL), True)
            for bad in (
                ("out", greatest + 1, cap), ("out", 0, 1), ("out", -1, cap), ("out", 1, 0), ("out", 2, 0), ("out", 1, -1),
                ("out", 1, cap + 1), ("trial", 0), ("trial", -1), ("trial", cap + 1), ("in", (), cap + 1, 0), ("in", (), -1, 0),
                ("in", (), 1, -1), ("in", (), 0, -1), ("in", (), 0, 1), ("in", (False,) * (made.of + 1), 0, 0),
            ):
                self.holds_not(self.closed(made, value, bad), made, "felt", (1, 1), FULL)

    def test_calm_where_the_rule_has_none(self):
        value = paper(FAST, "felt", (1, 1))
        for calm in (1, 2, -1, False, None):
            for times in (0, 1):
                self.holds_not(value + ((("in", (True, True), times, calm), 10 ** 5),), FAST, "felt", (1, 1))
        again = further_heights(FAST, "felt", (1, 1), value, (), [("in", (True, True), 1, 0)])
        self.assertIs(paper_holds(FAST, "felt", (1, 1), again), True)


class Wrong(Case):
    def test_what_is_neither_word(self):
        for value in no_whats():
            for share in ((1, 2), (0, 1)):
                with self.subTest(value=value):
                    with self.assertRaises(InvalidWhat) as caught:
                        paper(FAST, value, share)
                    self.assertIs(type(caught.exception), InvalidWhat)
                    for other in ((), None, paper(FAST, "felt", (1, 2))):
                        with self.assertRaises(InvalidWhat) as caught:
                            paper_holds(FAST, value, share, other)
                        self.assertIs(type(caught.exception), InvalidWhat)

    def test_ahead_of_everything_else(self):
        for value in (None, "", "Felt", 0, True, ["felt"]):
            for other in (None, "", 3, []):
                with self.assertRaises(InvalidWhat):
                    paper(other, value, other, other)
                with self.assertRaises(InvalidWhat):
                    paper_holds(other, value, other, other, other)


class Conventions(Case):
    def test_arguments_by_name(self):
        for free in FREES:
            value = paper(GROWING, "felt", (2, 2), free)
            self.assertEqual(paper(rule=GROWING, what="felt", share=(2, 2), free=free), value)
            self.assertEqual(paper(free=list(free), share=(2, 2), what="felt", rule=GROWING), value)
            self.assertIs(paper_holds(rule=GROWING, what="felt", share=(1, 1), value=(), free=free), False)
            found = paper_holds(free=list(free), value=value, share=(2, 2), what="felt", rule=GROWING)
            self.assertIs(found, True)
        self.assertEqual(paper(rule=GROWING, what="felt", share=(2, 2)), paper(GROWING, "felt", (2, 2)))

    def test_the_same_call_again_and_nothing_is_changed(self):
        free, before = ["told", "full"], dict(vars(HALF))
        first = paper(HALF, "missed", (1, 1), free)
        kept = repr(first)
        paper(FAST, "felt", (1, 2)), paper_holds(HALF, "missed", (1, 1), first, free), worst(HALF, "felt")
        self.assertEqual(repr(paper(HALF, "missed", (1, 1), free)), kept)
        self.assertEqual((repr(first), free, dict(vars(HALF))), (kept, ["told", "full"], before))
        entries = [[begun(), 0]]
        paper_holds(HALF, "missed", (1, 1), entries, free)
        self.assertEqual(entries, [[begun(), 0]])

    def test_soon_at_the_limits_and_beyond_them(self):
        for back in ("open", "half", "trial"):
            for hears in ("fault", "no", "out"):
                for made in (Rule(2, 3, 1, 1, 6, 3, back, 1, 2, False, hears), Rule(3, 4, 1, 1, 8, 4, back, 1, 2, True, hears)):
                    for what in WHATS:
                        counted, of = worst(made, what, FULL)
                        for share in ((counted, of), (counted * 1000 - 1, of * 1000), (1000, 999)):
                            start = perf_counter()
                            value = paper(made, what, share, FULL)
                            holds = paper_holds(made, what, share, value, FULL)
                            self.assertLess(perf_counter() - start, 1)
                            self.assertIs(holds, value is not None)

    def test_many_entries(self):
        made = Rule(3, 4, 1, 1, 9, 6, "trial", 1, 2, False, "fault")
        value = further_heights(made, "felt", (1, 1), paper(made, "felt", (1, 1)), FULL, look.forms(made))
        self.assertGreater(len(value), 1500)
        start = perf_counter()
        self.assertIs(paper_holds(made, "felt", (1, 1), value, FULL), True)
        fewer = tuple(entry for entry in value if entry[0] != ("out", 1, 1))
        self.assertIs(paper_holds(made, "felt", (1, 1), fewer, FULL), False)
        self.assertLess(perf_counter() - start, 2)


if __name__ == "__main__":
    unittest.main()
