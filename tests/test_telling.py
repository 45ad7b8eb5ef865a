"""Tests of [19]: which rules fit to what was seen."""

import random
import unittest
from itertools import product
from time import perf_counter

from sitout.errors import InvalidSeen
from sitout.rules import Rule
from sitout.telling import first_misfit, fits, fitting
from tests.look_rounds import BEGUN, FREES, LETTERS, all_seen, look_misfit, read, some_rules
from tests.samples import not_sequences, values

TEXT = "leave 2 of 2 out 3 more 0 most 3 calm 0 back open share 1/2 down hears no"
FAST = Rule.read(TEXT)
TRIED = Rule.read(TEXT.replace("open", "trial"))
NEVER = Rule.read(TEXT.replace("1/2", "0/2"))
HEARD = Rule.read(TEXT.replace("hears no", "hears out"))
SIGHTS = ("fault", "ok", "skip")
WORDS = {"x": "fault", "o": "ok", "-": "skip"}


def seen(text):
    return [WORDS[sign] for sign in text]


def sights(rule, row):
    """What a caller sees of a row of letters."""
    standing, found = BEGUN, []
    for letter in row:
        if not letter.startswith("told"):
            found.append("skip" if standing[0] == "out" else letter.split()[0])
        standing, _ = read(rule, [letter], standing)
    return found


class Case(unittest.TestCase):
    def right(self, made, row, free, misfit):
        with self.subTest(rule=str(made), row=row, free=free):
            found = first_misfit(made, row, free)
            self.assertEqual(found, misfit)
            self.assertEqual(repr(found), repr(misfit))
            self.assertIs(fits(made, row, free), misfit is None)
            self.assertEqual(fitting([made], row, free), (0,) if misfit is None else ())


class Fits(Case):
    def test_the_example_of_the_document(self):
        row = ["fault", "fault", "skip", "skip", "skip", "fault", "skip"]
        found = (fitting([FAST, TRIED], row), first_misfit(FAST, row), first_misfit(FAST, ["fault", "ok", "fault", "skip"]))
        self.assertEqual(found, ((1,), 6, 3))

    def test_nothing_at_all(self):
        for made in (FAST, TRIED, NEVER, HEARD):
            for free in FREES:
                for row in ([], ()):
                    self.right(made, row, free, None)

    def test_by_hand(self):
        for text, misfit in (
            ("o", None), ("x", None), ("-", 0), ("x-", 1), ("xx-", None), ("xx---", None), ("xx----", 5), ("xxo", 2),
            ("xxx", 2), ("xx--o", 4), ("xx---o", None), ("xx---xx---", None), ("xx---x-", 6), ("xoxoxoxoxx---", None),
            ("xoxx-x", 5),
        ):
            self.right(FAST, seen(text), (), misfit)
            self.right(FAST, tuple(seen(text)), ["told"], misfit)

    def test_a_caller_that_is_full(self):
        for text, misfit in (("xxx", None), ("xxxxxx---", None), ("xxo-", 3), ("-", 0), ("xx-x", 3), ("xxxoxo", None)):
            self.right(FAST, seen(text), ["full"], misfit)

    def test_words_come_unseen(self):
        for text, misfit in (
            ("-", None), ("o-", None), ("---", None), ("----", None), ("---o", None), ("--o", 2), ("---xx---", None),
            ("x---x", None), ("-" * 9, None), ("-" * 8 + "o", 8), ("o---o---o", None),
        ):
            self.right(HEARD, seen(text), ["told"], misfit)
            self.right(HEARD, seen(text), ("full", "told"), misfit)
            # Without words nothing is skipped ahead of two faults.
            self.right(HEARD, seen(text), (), text.find("-"))
        # One word and one fault, or two words, are two faults.
        counted = Rule.read(TEXT.replace("hears no", "hears fault"))
        for text, misfit in (("-", None), ("x-", None), ("o---o---x---", None), ("x--x", 3)):
            self.right(counted, seen(text), ["told"], misfit)

    def test_nobody_is_left_out(self):
        for free in FREES:
            self.right(NEVER, seen("xoxxxxoxoxx"), free, None)
            self.right(NEVER, seen("xoxxxx-"), free, 6)
            self.right(NEVER, ["skip"], free, 0)

    def test_all_short_rows_of_many_rules(self):
        fitted = 0
        for at, made in enumerate(some_rules(4, 2)):
            for free in FREES if at % 5 == 0 else (FREES[at % 4],):
                right = all_seen(made, free, 5)
                for many in range(6):
                    for row in product(SIGHTS, repeat=many):
                        found = fits(made, row, free)
                        fitted += found
                        if found is not (row in right):
                            self.fail(f"{made} {row} {free}")
        self.assertGreater(fitted, 1000)

    def test_what_rows_of_letters_bring(self):
        rng = random.Random(2)
        for at, made in enumerate(some_rules(3)):
            free = FREES[at % 4]
            row = [rng.choice(LETTERS[free] + ("fault",)) for _ in range(40)]
            told = sights(made, row)
            self.right(made, told, free, None)
            self.right(made, tuple(told), free[::-1], None)
            for place in (0, len(told) // 2, len(told) - 1):
                for other in SIGHTS:
                    changed = told[:place] + [other] + told[place + 1:]
                    misfit = look_misfit(made, changed, free)
                    self.right(made, changed, free, misfit)
                    if misfit is not None:
                        self.right(made, changed[:misfit], free, None)
                        self.right(made, changed[:misfit + 1], free, misfit)


class Fitting(Case):
    def test_of_no_rules(self):
        for rules in ([], ()):
            self.assertEqual(fitting(rules, seen("xx-")), ())

    def test_a_rule_twice_and_each_order(self):
        self.assertEqual(fitting([TRIED, FAST, TRIED, NEVER], seen("xx---x-")), (0, 2))
        self.assertEqual(fitting((NEVER, FAST, FAST, TRIED), seen("xx---")), (1, 2, 3))
        self.assertEqual(fitting([NEVER, NEVER], seen("xxx")), (0, 1))
        self.assertEqual(fitting([NEVER, FAST], seen("xx-x")), ())

    def test_all_of_many(self):
        rules = some_rules(9)
        for text in ("", "x", "xx", "x-", "xx-o", "xx--x-", "x-o-", "---o", "xxx", "oxoxx-x"):
            for free in FREES:
                expected = tuple(at for at, made in enumerate(rules) if look_misfit(made, seen(text), free) is None)
                self.assertEqual(fitting(rules, seen(text), free), expected)
                self.assertEqual(fitting(tuple(rules), tuple(seen(text)), list(free)), expected)


class Wrong(Case):
    def refused(self, value, at):
        with self.subTest(value=value):
            for asked, made in ((fits, FAST), (first_misfit, FAST), (fitting, [FAST, TRIED]), (fitting, []), (fitting, ())):
                with self.assertRaises(InvalidSeen) as caught:
                    asked(made, value)
                self.assertIs(type(caught.exception), InvalidSeen)
                self.assertEqual(caught.exception.at, at)
                self.assertIs(type(caught.exception.at), int)

    def test_what_is_no_sequence(self):
        for value in not_sequences() + ["ok", "fault", "skip", "ok fault", FAST]:
            self.refused(value, 0)

    def test_things_that_are_none(self):
        others = ["Ok", "ok ", " ok", "", "o", "oks", "OK", "faults", "skipped", "missed", "felt", "told", "fault full", "full"]
        others += [["ok"], ("ok",), [["skip"]], None, True, 0, 1, FAST]
        for value in [value for value in values() if value not in SIGHTS] + others:
            self.refused([value], 0)
            self.refused(("ok", value), 1)
            self.refused(["fault", "fault", "skip", value, "skip"], 3)
            self.refused([value, None], 0)

    def test_the_first_of_several(self):
        self.refused(["ok", "skip", None, 3], 2)
        self.refused(["ok"] * 30 + ["told", "ok", "tell"], 30)

    def test_also_where_nothing_fits_ahead_of_it(self):
        self.refused(["skip", "skip", "none"], 2)


class Conventions(Case):
    def test_arguments_by_name(self):
        row = seen("xx---x-")
        for free in FREES:
            self.assertEqual(fits(rule=FAST, seen=row, free=free), fits(FAST, row, free))
            self.assertEqual(first_misfit(free=list(free), seen=tuple(row), rule=FAST), first_misfit(FAST, row, free))
            self.assertEqual(fitting(rules=[FAST, TRIED], seen=row, free=free), fitting((FAST, TRIED), row, free))
        self.assertEqual((fits(rule=TRIED, seen=row), fitting(seen=row, rules=[FAST, TRIED])), (True, (1,)))

    def test_the_same_call_again_and_nothing_is_changed(self):
        rules, row, free = [FAST, HEARD, TRIED], seen("x---o"), ["told", "full"]
        first = (fits(HEARD, row, free), fitting(rules, row, free), first_misfit(HEARD, row, free))
        fits(FAST, seen("xxxx"), ["full"]), first_misfit(NEVER, seen("x-"))
        self.assertEqual((fits(HEARD, row, free), fitting(rules, row, free), first_misfit(HEARD, row, free)), first)
        self.assertEqual((rules, row, free), ([FAST, HEARD, TRIED], seen("x---o"), ["told", "full"]))

    def test_soon_at_the_limits_and_beyond_them(self):
        for back in ("open", "half", "trial"):
            for hears in ("fault", "no", "out"):
                for made in (Rule(2, 3, 1, 1, 6, 3, back, 1, 2, False, hears), Rule(3, 4, 1, 1, 8, 4, back, 1, 2, True, hears)):
                    row = sights(made, ["fault", "fault full", "ok", "told", "fault"] * 12)
                    start = perf_counter()
                    self.assertEqual(fitting([made] * 5, row, ["full", "told"]), (0, 1, 2, 3, 4))
                    self.assertLess(perf_counter() - start, 2)


if __name__ == "__main__":
    unittest.main()
