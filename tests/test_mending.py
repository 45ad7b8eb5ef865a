"""Tests of [20]: rules near to one that do no more harm than is told, and safe shares."""

import unittest
from fractions import Fraction
from itertools import product
from time import perf_counter

from sitout.errors import InvalidRule, InvalidWhat
from sitout.mending import mends, safe_top
from sitout.rates import worst
from sitout.rules import Rule
from tests import look
from tests.look_rounds import FREES, WHATS, look_worst, some_rules, turns
from tests.samples import no_whats

TEXT = "leave 2 of 2 out 3 more 0 most 3 calm 0 back open share 1/2 down hears no"
FAST = Rule.read(TEXT)
NAMES = ("need", "of", "base", "more", "most", "calm")
REST = ("back", "top", "under", "up", "hears")


def near(made):
    """The rules that differ by 1 in one of the six numbers, by name."""
    found = []
    for name, by in product(NAMES, (-1, 1)):
        given = {each: getattr(made, each) for each in NAMES + REST}
        given[name] += by
        try:
            found.append(Rule(**given))
        except InvalidRule:
            pass
    return found


class Case(unittest.TestCase):
    def exactly(self, value, expected):
        self.assertEqual(value, expected)
        self.assertEqual(repr(value), repr(expected))

    def right(self, made, what, share, free, rates):
        """Just those texts are told whose rates are not above the share."""
        expected = tuple(sorted(text for text, rate in rates.items() if rate <= Fraction(*share)))
        with self.subTest(rule=str(made), what=what, share=share, free=free):
            self.exactly(mends(made, what, share, free), expected)


class Mends(Case):
    def test_the_example_of_the_document(self):
        self.exactly(mends(FAST, "missed", (1, 2)), (TEXT.replace("out 3", "out 2"),))

    def test_all_near_ones(self):
        expected = ["leave 1 of 2", "leave 2 of 3", "out 2", "more 1", "most 4", "calm 1"]
        texts = [TEXT.replace(word, other) for word, other in zip(
            ["leave 2 of 2", "leave 2 of 2", "out 3", "more 0", "most 3", "calm 0"], expected,
        )]
        for what in WHATS:
            self.exactly(mends(FAST, what, (1, 1)), tuple(sorted(texts)))

    def test_ascending_as_strings(self):
        made = Rule(2, 2, 9, 9, 10, 0, "open", 1, 2, False, "no")
        found = mends(made, "missed", (1, 1))
        self.exactly(found, tuple(sorted(found)))
        self.assertIn(str(Rule(2, 2, 9, 10, 10, 0, "open", 1, 2, False, "no")), found)
        self.assertIn(str(Rule(2, 2, 10, 9, 10, 0, "open", 1, 2, False, "no")), found)
        self.assertEqual(len(found), 9)

    def test_none(self):
        for free in FREES:
            self.exactly(mends(FAST, "felt", (0, 1), free), ())
            self.exactly(mends(FAST, "missed", (0, 5), free), ())
        self.exactly(mends(FAST, "felt", (9, 10), ["full"]), ())

    def test_the_rule_itself_is_none_of_them(self):
        for what in WHATS:
            self.assertNotIn(TEXT, mends(FAST, what, (5, 2)))

    def test_just_those_that_are_good_enough(self):
        for at, made in enumerate(some_rules(6, 4)):
            for free in (FREES[at % 4], FREES[3]):
                looked = [(str(other), turns(other, free)) for other in near(made)]
                for what in WHATS:
                    rates = {text: look_worst(rows, what) for text, rows in looked}
                    for rate in sorted(set(rates.values())):
                        a, b = rate.numerator, rate.denominator
                        self.right(made, what, (a, b), free, rates)
                        self.right(made, what, (a * 30, b * 30), list(free), rates)
                        self.right(made, what, (max(a * 50 - 1, 0), b * 50), free[::-1], rates)
                    for share in ((0, 1), (1, 2), (1, 1), (3, 2)):
                        self.right(made, what, share, free, rates)

    def test_they_agree_with_worst(self):
        for made in some_rules(20):
            for what in WHATS:
                share = worst(made, what)
                for text in mends(made, what, share):
                    self.assertLessEqual(Fraction(*worst(Rule.read(text), what)), Fraction(*share))

    def test_what_is_neither_word(self):
        for value in no_whats():
            for share in ((0, 1), (1, 2), (1, 1)):
                with self.subTest(value=value):
                    with self.assertRaises(InvalidWhat) as caught:
                        mends(FAST, value, share)
                    self.assertIs(type(caught.exception), InvalidWhat)

    def test_ahead_of_everything_else(self):
        for value in (None, "", "Felt", 0, True, ["felt"]):
            for other in (None, "", 3, []):
                with self.assertRaises(InvalidWhat):
                    mends(other, value, other, other)

    def test_conventions(self):
        free, before = ["told", "full"], dict(vars(FAST))
        first = mends(FAST, "missed", (3, 5), free)
        self.exactly(mends(rule=FAST, what="missed", share=(3, 5), free=("told", "full")), first)
        self.exactly(mends(free=["full", "told"], share=(6, 10), what="missed", rule=FAST), first)
        self.exactly(mends(rule=FAST, what="missed", share=(3, 5)), mends(FAST, "missed", (3, 5), []))
        self.assertEqual((free, dict(vars(FAST))), (["told", "full"], before))

    def test_soon_at_the_limits_and_beyond_them(self):
        for back, hears in product(("open", "half", "trial"), ("fault", "no", "out")):
            for made in (Rule(2, 3, 1, 1, 5, 2, back, 1, 2, False, hears), Rule(2, 3, 2, 1, 6, 3, back, 1, 2, True, hears)):
                for what in WHATS:
                    start = perf_counter()
                    self.assertEqual(len(mends(made, what, (1, 1), ["full", "told"])), len(near(made)))
                    mends(made, what, worst(made, what, ["full", "told"]), ["full", "told"])
                    self.assertLess(perf_counter() - start, 2)


class SafeTop(Case):
    def counted(self, under, up, spare, start):
        """The greatest top, by counting over many numbers of servers."""
        tops = [
            top for top in range(under + 1)
            if all(n - look.share_of(n, top, under, up) >= spare for n in range(start, start + 3 * under + 2))
        ]
        return max(tops, default=None)

    def test_the_example_of_the_document(self):
        self.exactly((safe_top(4, False, 2, 3), safe_top(4, True, 2, 3)), (2, 1))

    def test_by_hand(self):
        for under in (1, 2, 7, 20):
            for up in (True, False):
                self.exactly(safe_top(under, up, 0, 1), under)
                self.exactly(safe_top(under, up, 0, 9), under)
                self.exactly(safe_top(under, up, 1, 1), 0 if up or under == 1 else under - 1)
                self.exactly(safe_top(under, up, 2, 1), None)
                self.exactly(safe_top(under, up, 50, 49), None)
                self.exactly(safe_top(under, up, 50, 50), 0 if up or under == 1 else self.counted(under, up, 50, 50))

    def test_counted_for_many(self):
        for under, up, spare, start in product(range(1, 9), (True, False), range(6), range(1, 9)):
            with self.subTest(under=under, up=up, spare=spare, start=start):
                self.exactly(safe_top(under, up, spare, start), self.counted(under, up, spare, start))

    def test_counted_at_the_limits_and_beyond_them(self):
        for under, up, spare, start in product((19, 20, 23), (True, False), (0, 1, 7, 49, 50, 53), (1, 2, 20, 50, 60)):
            with self.subTest(under=under, up=up, spare=spare, start=start):
                self.exactly(safe_top(under, up, spare, start), self.counted(under, up, spare, start))

    def test_by_the_limit_of_rules(self):
        for under, up, spare, start in product((3, 5), (True, False), (1, 2, 3), (2, 4, 7)):
            top = safe_top(under, up, spare, start)
            for tried in range(under + 1):
                made = Rule(1, 1, 1, 0, 1, 0, "open", tried, under, up, "no")
                safe = all(n - made.limit(n) >= spare for n in range(start, 60))
                self.assertIs(safe, top is not None and tried <= top)

    def test_conventions(self):
        self.exactly(safe_top(under=4, up=True, spare=2, start=3), 1)
        self.exactly(safe_top(start=3, spare=2, up=False, under=4), 2)
        self.exactly([safe_top(7, True, 3, 5), safe_top(7, False, 3, 5), safe_top(7, True, 3, 5)], [2, 4, 2])


if __name__ == "__main__":
    unittest.main()
