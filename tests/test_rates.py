"""Tests of [15] and [16]: the worst share, a round that has it, and the longest row."""

import unittest
from fractions import Fraction
from math import gcd
from time import perf_counter

from sitout.errors import InvalidWhat
from sitout.rates import longest, round_of, sick, worst
from sitout.rules import Rule
from sitout.standings import begun, letters, step
from tests.look_rounds import (
    FREES, LETTERS, WHATS, look_longest, look_sick, look_worst, read, some_rules, turns,
)
from tests.samples import no_whats

FAST = Rule.read("leave 2 of 2 out 3 more 0 most 3 calm 0 back open share 1/2 down hears no")
TRIED = Rule.read("leave 2 of 2 out 3 more 0 most 3 calm 0 back trial share 1/2 down hears no")


def rule(**changed):
    given = {
        "need": 2, "of": 2, "base": 2, "more": 0, "most": 2, "calm": 0, "back": "open",
        "top": 1, "under": 2, "up": False, "hears": "no",
    }
    return Rule(**{**given, **changed})


class Case(unittest.TestCase):
    def exactly(self, value, expected):
        self.assertEqual(value, expected)
        self.assertEqual(repr(value), repr(expected))


class Worst(Case):
    def test_the_example_of_the_document(self):
        self.exactly((worst(FAST, "felt"), worst(FAST, "missed"), worst(TRIED, "missed")), ((1, 2), (3, 5), (3, 4)))
        self.exactly(worst(FAST, "felt", ["full"]), (1, 1))

    def test_by_hand(self):
        # A fault, two turns out, and a fault again: by a trial or not.
        for back in ("open", "half", "trial"):
            made = rule(need=1, of=1, back=back)
            self.exactly((worst(made, "felt"), worst(made, "missed")), ((1, 3), (2, 3)))
        # The third fault in a row leaves it out: two of three turns are faults without it.
        made = rule(need=3, of=3, base=1, most=1)
        self.exactly((worst(made, "felt"), worst(made, "missed")), ((3, 4), (1, 4)))
        # With half of three faults it comes back with one, so two more are enough.
        made = rule(need=3, of=3, base=1, most=1, back="half")
        self.exactly((worst(made, "felt"), worst(made, "missed")), ((2, 3), (1, 3)))

    def test_times_that_grow(self):
        made = rule(need=1, of=1, base=1, more=2, most=6)
        self.exactly((worst(made, "felt"), worst(made, "missed")), ((1, 7), (6, 7)))
        # One answer ok lets the times begin anew.
        made = rule(need=1, of=1, base=1, more=2, most=6, calm=1)
        self.exactly((worst(made, "felt"), worst(made, "missed")), ((1, 3), (6, 7)))

    def test_nobody_is_left_out(self):
        for free in FREES:
            for hears in ("fault", "no", "out"):
                made = rule(top=0, hears=hears)
                self.exactly((worst(made, "felt", free), worst(made, "missed", free)), ((1, 1), (0, 1)))

    def test_there_is_always_room(self):
        made = rule(top=3, under=3)
        for what in WHATS:
            self.exactly(worst(made, what, ["full"]), worst(made, what))
        self.exactly(worst(made, "felt", ["full"]), (1, 2))

    def test_kept_for_ever(self):
        for free in (["full"], ("told", "full")):
            self.exactly(worst(FAST, "felt", free), (1, 1))
            self.exactly(worst(rule(back="trial", calm=2), "felt", free), (1, 1))

    def test_left_out_for_ever_by_words(self):
        for hears in ("fault", "out"):
            for back in ("open", "half"):
                made = rule(back=back, hears=hears)
                self.exactly(worst(made, "missed", ["told"]), (1, 1))
                self.assertNotEqual(worst(made, "missed"), (1, 1))
        # Words do not matter on trial, and no matter at all by "no".
        self.exactly(worst(rule(back="trial", hears="out"), "missed", ["told"]), (2, 3))
        self.exactly(worst(rule(), "missed", ["told"]), worst(rule(), "missed"))

    def test_words_are_no_turns(self):
        # A turn that is missed, and a word: if the word were a turn, the share would be lower.
        made = rule(need=1, of=1, base=1, most=1, hears="out")
        self.exactly(worst(made, "missed", ["told"]), (1, 1))
        # Words that change nothing could go on without turns.
        for free in FREES:
            for what in WHATS:
                self.exactly(worst(TRIED, what, [word for word in free if word == "full"]), worst(TRIED, what, free))

    def test_in_lowest_terms(self):
        # Six of nine turns: three faults, and six turns out.
        self.exactly(worst(rule(need=3, of=3, base=6, most=6), "missed"), (2, 3))
        for made in some_rules(5):
            for free in FREES:
                for what in WHATS:
                    counted, of = worst(made, what, free)
                    self.assertEqual(gcd(counted, of), 1)
                    self.assertEqual((type(counted), type(of)), (int, int))

    def test_many_rules(self):
        for at, made in enumerate(some_rules()):
            for free in FREES if at % 4 == 0 else (FREES[at % 4], FREES[3]):
                rows = turns(made, free)
                for what in WHATS:
                    found = worst(made, what, free)
                    expected = look_worst(rows, what)
                    with self.subTest(rule=str(made), what=what, free=free):
                        self.exactly(found, (expected.numerator, expected.denominator))

    def test_free_in_each_form(self):
        made = rule(need=1, of=2, base=1, more=1, most=3, calm=1, hears="fault")
        for what in WHATS:
            both = worst(made, what, ("full", "told"))
            for free in (["full", "told"], ["told", "full"], ("told", "full")):
                self.exactly(worst(made, what, free), both)
            self.exactly(worst(made, what, []), worst(made, what))
            self.exactly(worst(made, what, ["told"]), worst(made, what, ("told",)))
            self.exactly(worst(made, what, ["full"]), worst(made, what, ("full",)))

    def test_the_letters_that_are_free_matter(self):
        made = rule(need=1, of=1, base=2, most=2, hears="fault")
        found = [(worst(made, "felt", free), worst(made, "missed", free)) for free in FREES]
        self.exactly(found, [((1, 3), (2, 3)), ((1, 1), (2, 3)), ((1, 3), (1, 1)), ((1, 1), (1, 1))])


class Sick(Case):
    def test_the_example_of_the_document(self):
        self.exactly((sick(FAST), sick(TRIED)), ((2, 5), (1, 4)))

    def test_by_hand(self):
        self.exactly(sick(rule(top=0)), (1, 1))
        self.exactly(sick(rule(top=1, under=1)), (1, 2))
        self.exactly(sick(rule(base=4, most=4)), (1, 3))
        self.exactly(sick(rule(back="half", base=4, most=4)), (1, 5))
        # Only the round counts, not what comes ahead of it.
        self.exactly(sick(rule(base=1, more=3, most=9, calm=2)), (2, 11))
        self.exactly(sick(rule(base=1, more=3, most=9, back="trial")), (1, 10))

    def test_many_rules(self):
        for made in some_rules():
            expected = look_sick(made)
            with self.subTest(rule=str(made)):
                self.exactly(sick(made), (expected.numerator, expected.denominator))

    def test_never_above_the_worst(self):
        for made in some_rules(4):
            self.assertLessEqual(Fraction(*sick(made)), Fraction(*worst(made, "felt")))


class RoundOf(Case):
    def right(self, made, what, free):
        """The round is one, by the look and by step, and has the share that is told."""
        pair = round_of(made, what, free)
        self.assertIs(type(pair), tuple)
        ahead, row = pair
        self.assertEqual((type(ahead), type(row)), (tuple, tuple))
        self.assertLessEqual(set(ahead + row), set(LETTERS[tuple(sorted(free))]))
        place, _ = read(made, ahead)
        again, whats = read(made, row, place)
        self.assertEqual(again, place)
        taken = [brought for brought in whats if brought != "told"]
        self.assertGreater(len(taken), 0)
        self.assertEqual(Fraction(taken.count(what), len(taken)), Fraction(*worst(made, what, free)))
        standing = begun()
        for letter in ahead:
            standing, _ = step(made, standing, letter)
        self.assertEqual(standing, place)
        for letter in row:
            standing, _ = step(made, standing, letter)
        self.assertEqual(standing, place)

    def test_many_rules(self):
        for made in some_rules(3, 1):
            for free in FREES:
                for what in WHATS:
                    with self.subTest(rule=str(made), what=what, free=free):
                        self.right(made, what, free)

    def test_where_no_turn_is_counted(self):
        for free in FREES:
            for need, of in ((1, 1), (2, 3), (3, 3), (4, 4)):
                for hears in ("fault", "no", "out"):
                    self.right(rule(need=need, of=of, top=0, hears=hears), "missed", free)

    def test_where_words_matter(self):
        for back in ("open", "half", "trial"):
            for hears in ("fault", "out"):
                for free in (["told"], ["told", "full"], ("full", "told")):
                    self.right(rule(need=1, of=1, back=back, hears=hears), "missed", free)
                    self.right(rule(need=3, of=3, back=back, hears=hears, more=1, most=4), "missed", free)

    def test_only_letters_that_there_are(self):
        for made in (FAST, TRIED, rule(hears="out"), rule(hears="fault", top=0)):
            for free in FREES:
                for what in WHATS:
                    ahead, row = round_of(made, what, free)
                    self.assertLessEqual(set(ahead + row), set(letters(free)))


class Longest(Case):
    def test_the_example_of_the_document(self):
        found = (longest(FAST, "felt"), longest(FAST, "missed"), longest(FAST, "felt", ["full"]))
        self.exactly(found, (2, 3, None))

    def test_by_hand(self):
        self.exactly((longest(TRIED, "felt"), longest(TRIED, "missed")), (2, 3))
        self.exactly(longest(rule(need=3, of=3), "felt"), 3)
        self.exactly(longest(rule(need=1, of=3), "felt"), 1)
        self.exactly(longest(rule(base=2, more=3, most=7), "missed"), 7)
        self.exactly(longest(rule(base=2, more=0, most=7), "missed"), 2)

    def test_no_turn_is_counted(self):
        for free in FREES:
            self.exactly(longest(rule(top=0), "missed", free), 0)
            self.exactly(longest(rule(top=0, hears="out"), "missed", free), 0)

    def test_no_greatest_one(self):
        for free in FREES:
            self.assertIsNone(longest(rule(top=0), "felt", free))
        self.assertIsNone(longest(FAST, "felt", ("full", "told")))
        for hears in ("fault", "out"):
            for free in (["told"], ["told", "full"]):
                self.assertIsNone(longest(rule(hears=hears), "missed", free))
                self.assertIsNone(longest(rule(hears=hears, back="half"), "missed", free))

    def test_words_do_not_matter_on_trial(self):
        for free in (["told"], ["told", "full"]):
            self.exactly(longest(rule(back="trial", hears="out"), "missed", free), 2)

    def test_words_between(self):
        # By a word it is out again as soon as it is back.
        made = rule(need=1, of=1, hears="fault", base=1, most=1)
        self.exactly(longest(made, "felt"), 1)
        self.exactly(longest(made, "felt", ["told"]), 1)
        self.exactly(longest(made, "missed"), 1)
        self.assertIsNone(longest(made, "missed", ["told"]))

    def test_always_room(self):
        made = rule(top=2)
        self.exactly((longest(made, "felt", ["full"]), longest(made, "missed", ["full"])), (2, 2))

    def test_many_rules(self):
        nones = 0
        for at, made in enumerate(some_rules()):
            for free in FREES if at % 3 == 0 else (FREES[at % 4],):
                rows = turns(made, free)
                for what in WHATS:
                    found = longest(made, what, free)
                    nones += found is None
                    with self.subTest(rule=str(made), what=what, free=free):
                        self.exactly(found, look_longest(rows, what))
        self.assertGreater(nones, 50)


class Wrong(Case):
    def test_what_is_neither_word(self):
        for value in no_whats():
            for asked in (worst, round_of, longest):
                for free in ((), ["told", "full"]):
                    with self.subTest(value=value, asked=asked.__name__):
                        with self.assertRaises(InvalidWhat) as caught:
                            asked(FAST, value, free)
                        self.assertIs(type(caught.exception), InvalidWhat)

    def test_ahead_of_everything_else(self):
        for value in (None, "", "Felt", 0, True, ["felt"], FAST):
            for other in (None, "", 3, []):
                for asked in (worst, round_of, longest):
                    with self.assertRaises(InvalidWhat):
                        asked(other, value, other)


class Conventions(Case):
    def test_arguments_by_name(self):
        for what in WHATS:
            for asked in (worst, round_of, longest):
                expected = asked(FAST, what, ["full"])
                self.exactly(asked(rule=FAST, what=what, free=["full"]), expected)
                self.exactly(asked(free=("full",), what=what, rule=FAST), expected)
                self.exactly(asked(rule=FAST, what=what), asked(FAST, what))
        self.exactly(sick(rule=TRIED), sick(TRIED))

    def test_the_same_call_again_and_nothing_is_changed(self):
        made, free = rule(hears="out", more=1, most=3, calm=1), ["told", "full"]
        before = (str(made), dict(vars(made)))
        first = [(worst(made, what, free), round_of(made, what, free), longest(made, what, free)) for what in WHATS]
        worst(FAST, "felt"), round_of(TRIED, "missed", ["told"]), longest(FAST, "felt", ["full"]), sick(made)
        again = [(worst(made, what, free), round_of(made, what, free), longest(made, what, free)) for what in WHATS]
        self.exactly(again, first)
        self.assertEqual((str(made), dict(vars(made))), before)
        self.assertEqual(free, ["told", "full"])

    def test_soon_at_the_limits_and_beyond_them(self):
        for back in ("open", "half", "trial"):
            for hears in ("fault", "no", "out"):
                for made in (
                    Rule(2, 3, 1, 1, 6, 3, back, 1, 2, False, hears), Rule(3, 3, 6, 0, 6, 3, back, 19, 20, True, hears),
                    Rule(3, 4, 1, 1, 8, 4, back, 1, 2, True, hears),
                ):
                    for free in (("full",), ("full", "told")):
                        for what in WHATS:
                            start = perf_counter()
                            worst(made, what, free), longest(made, what, free), round_of(made, what, free)
                            self.assertLess(perf_counter() - start, 1)


if __name__ == "__main__":
    unittest.main()
