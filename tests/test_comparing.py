"""Tests of [18]: whether two rules call and skip at the same turns."""

import random
import unittest
from itertools import product
from time import perf_counter

from sitout.comparing import alike, covers, parting, uncovered
from sitout.errors import InvalidRule
from sitout.rules import Rule
from tests.look_rounds import BEGUN, FREES, LETTERS, differ, look_parting, only_second, read

TEXT = "leave 2 of 2 out 3 more 0 most 3 calm 0 back open share 1/2 down hears no"
FAST = Rule.read(TEXT)
TRIED = Rule.read(TEXT.replace("open", "trial"))
NEVER = Rule.read(TEXT.replace("1/2", "0/2"))
NAMES = ("need", "of", "base", "more", "most", "calm", "back", "top", "under", "up", "hears")


def changed(rule, **given):
    return Rule(**{**{name: getattr(rule, name) for name in NAMES}, **given})


def near_ones(rule):
    """Rules that differ from one in one argument."""
    found = [changed(rule, back=back) for back in ("open", "half", "trial")]
    found += [changed(rule, hears=hears) for hears in ("fault", "no", "out")]
    found += [changed(rule, top=0), changed(rule, top=rule.under), changed(rule, up=not rule.up)]
    for name, by in product(NAMES[:6], (-1, 1)):
        try:
            found.append(changed(rule, **{name: getattr(rule, name) + by}))
        except InvalidRule:
            pass
    return found


def some(rng):
    of = rng.randint(1, 3)
    base = rng.randint(1, 4)
    top, under = rng.choice(((1, 2), (1, 2), (2, 3), (0, 1), (1, 1)))
    return Rule(
        rng.randint(1, of), of, base, rng.randint(0, 2), rng.randint(base, 4), rng.randint(0, 2),
        rng.choice(("open", "half", "trial")), top, under, False, rng.choice(("fault", "no", "out")),
    )


class Case(unittest.TestCase):
    def right(self, p, q, free):
        """All four functions tell what the look tells."""
        free = tuple(free)
        with self.subTest(p=str(p), q=str(q), free=free):
            self.row(p, q, free, parting(p, q, free), differ)
            self.row(p, q, free, uncovered(p, q, free), only_second)
            self.assertIs(alike(p, q, free), look_parting(p, q, free, differ) is None)
            self.assertIs(covers(p, q, free), look_parting(p, q, free, only_second) is None)

    def row(self, p, q, free, found, parts):
        """A row is a shortest one: it has the length of one, and parts at its last letter and at none ahead."""
        many = look_parting(p, q, free, parts)
        if many is None:
            self.assertIsNone(found)
            return
        self.assertIs(type(found), tuple)
        self.assertEqual(len(found), many)
        self.assertLessEqual(set(found), set(LETTERS[free]))
        first, second = BEGUN, BEGUN
        for at, letter in enumerate(found):
            told = parts(first[0] == "out", second[0] == "out") and not letter.startswith("told")
            self.assertIs(told, at == len(found) - 1)
            first, _ = read(p, [letter], first)
            second, _ = read(q, [letter], second)


class Pairs(Case):
    def test_the_example_of_the_document(self):
        self.assertIs(alike(FAST, Rule.read(TEXT.replace("most 3", "most 9"))), True)
        self.assertEqual(len(parting(FAST, TRIED)), 7)
        self.assertEqual((covers(FAST, NEVER), covers(NEVER, FAST)), (True, False))

    def test_by_hand(self):
        # The third letter is the first at which the one is out.
        self.assertEqual(parting(FAST, NEVER)[:2], ("fault", "fault"))
        self.assertEqual((len(parting(FAST, NEVER)), len(uncovered(NEVER, FAST))), (3, 3))
        self.assertIsNone(uncovered(FAST, NEVER))
        self.assertIsNone(parting(FAST, changed(FAST, top=2)))
        self.assertEqual(parting(FAST, changed(FAST, top=2), ["full"])[:-1], ("fault", "fault full"))
        longer = changed(FAST, base=4, most=4)
        self.assertEqual((covers(longer, FAST), covers(FAST, longer)), (False, False))
        self.assertEqual(len(uncovered(FAST, longer)), 6)
        first = changed(FAST, need=1)
        self.assertEqual((len(parting(first, FAST)), len(uncovered(FAST, first))), (2, 2))

    def test_words_matter_only_where_they_are_read(self):
        heard = changed(FAST, hears="out")
        for free in ((), ["full"]):
            self.assertIs(alike(FAST, heard, free), True)
            self.assertIsNone(parting(FAST, heard, free))
        for free in (["told"], ["told", "full"]):
            self.assertIs(alike(FAST, heard, free), False)
            self.assertEqual(parting(FAST, heard, free)[0], "told")
            self.assertEqual(len(parting(FAST, heard, free)), 2)
            # It comes back ahead of the other one, which was left out later.
            self.assertEqual((covers(heard, FAST, free), covers(FAST, heard, free)), (False, False))

    def test_a_rule_and_itself(self):
        rng = random.Random(1)
        for made in [FAST, TRIED, NEVER] + [some(rng) for _ in range(30)]:
            for other in (made, Rule.read(str(made))):
                for free in FREES:
                    self.assertIs(alike(made, other, free), True)
                    self.assertIs(covers(made, other, free), True)
                    self.assertIsNone(parting(made, other, free))
                    self.assertIsNone(uncovered(made, other, free))

    def test_shares_do_not_matter_but_for_none_and_all(self):
        for made in (FAST, TRIED, changed(FAST, hears="out")):
            for top, under, up in ((1, 3, False), (2, 3, True), (19, 20, True), (1, 20, False)):
                other = changed(made, top=top, under=under, up=up)
                for free in FREES:
                    self.assertIs(alike(made, other, free), True)
            for free in FREES:
                self.assertIs(alike(changed(made, top=0), changed(made, top=0, under=9, up=True), free), True)
                self.assertIs(alike(changed(made, top=2), changed(made, top=5, under=5, up=True), free), True)

    def test_rules_that_do_the_same(self):
        for one, other in (
            (changed(FAST, back="half", need=1, of=1), changed(FAST, need=1, of=1)),
            (changed(FAST, need=1, of=1), changed(FAST, need=1, of=3)),
            (changed(FAST, more=0, most=9), FAST),
            (changed(FAST, calm=1), FAST),
            (changed(FAST, base=1, more=2, most=3, calm=0), changed(FAST, base=1, more=7, most=3, calm=0)),
        ):
            self.assertNotEqual(one, other)
            for free in ((), ["full"]):
                self.right(one, other, free)
                self.assertIs(alike(one, other, free), True)

    def test_near_ones_each_way_about(self):
        bases = (
            Rule(2, 3, 2, 1, 3, 2, "half", 1, 2, False, "fault"), Rule(2, 2, 1, 2, 3, 1, "trial", 1, 2, True, "out"),
            Rule(1, 2, 3, 0, 3, 0, "open", 2, 3, False, "out"),
        )
        for made in bases:
            for other in near_ones(made):
                for free in FREES:
                    self.right(made, other, free)
                    self.right(other, made, free)

    def test_others(self):
        rng = random.Random(6)
        same = 0
        for _ in range(150):
            p = some(rng)
            q = rng.choice(near_ones(p)) if rng.random() < 0.5 else some(rng)
            for free in FREES:
                self.right(p, q, free)
                same += alike(p, q, free)
        self.assertGreater(same, 20)
        self.assertLess(same, 500)

    def test_alike_if_each_covers_the_other(self):
        rng = random.Random(8)
        for _ in range(60):
            p = some(rng)
            q = rng.choice(near_ones(p))
            for free in FREES:
                self.assertIs(alike(p, q, free), covers(p, q, free) and covers(q, p, free))
                self.assertIs(alike(p, q, free), alike(q, p, free))


class Conventions(Case):
    def test_arguments_by_name(self):
        for asked in (alike, parting, covers, uncovered):
            for free in FREES:
                expected = asked(FAST, TRIED, free)
                self.assertEqual(asked(p=FAST, q=TRIED, free=list(free)), expected)
                self.assertEqual(asked(free=free[::-1], q=TRIED, p=FAST), expected)
            self.assertEqual(asked(p=NEVER, q=FAST), asked(NEVER, FAST, []))

    def test_the_same_call_again_and_nothing_is_changed(self):
        p, q, free = changed(FAST, hears="out"), changed(TRIED, hears="fault"), ["told", "full"]
        before = (dict(vars(p)), dict(vars(q)))
        first = [asked(p, q, free) for asked in (alike, parting, covers, uncovered)]
        parting(NEVER, FAST), alike(q, p), covers(FAST, TRIED, ["full"])
        self.assertEqual([asked(p, q, free) for asked in (alike, parting, covers, uncovered)], first)
        self.assertEqual((dict(vars(p)), dict(vars(q)), free), (*before, ["told", "full"]))

    def test_soon_at_the_limits_and_beyond_them(self):
        for back, hears in product(("open", "half", "trial"), ("fault", "no", "out")):
            for made in (Rule(2, 3, 1, 1, 4, 2, back, 1, 2, False, hears), Rule(3, 4, 1, 1, 5, 3, back, 1, 2, True, hears)):
                for other in near_ones(made) + [Rule.read(str(made)), TRIED]:
                    start = perf_counter()
                    first = parting(made, other, ["full", "told"])
                    second = uncovered(made, other, ["full", "told"])
                    self.assertLess(perf_counter() - start, 2)
                    self.assertTrue(second is None or len(first) <= len(second))


if __name__ == "__main__":
    unittest.main()
