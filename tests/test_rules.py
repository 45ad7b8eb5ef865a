"""Tests of [5] and [6], and of [1] to [3] for rules."""

import unittest
from itertools import product

from sitout.errors import InvalidRule, InvalidText
from sitout.roads import Road
from sitout.rules import Rule
from tests.samples import GOOD, TEXT, not_integers, rule, values

NAMES = tuple(GOOD)
NUMBERS = ("need", "of", "base", "more", "most", "calm", "top", "under")
WORDS = {"back": ("half", "open", "trial"), "hears": ("fault", "no", "out")}


class Wrong(unittest.TestCase):
    def wrong(self, word, **changed):
        with self.subTest(**changed):
            arguments = {**GOOD, **changed}
            with self.assertRaises(InvalidRule) as caught:
                Rule(**arguments)
            self.assertEqual(caught.exception.word, word)
            with self.assertRaises(InvalidRule) as caught:
                Rule(*[arguments[name] for name in NAMES])
            self.assertEqual(caught.exception.word, word)

    def test_what_is_no_integer(self):
        for name in NUMBERS:
            for value in not_integers():
                self.wrong(name, **{name: value})

    def test_a_bool_is_no_integer_where_one_would_do(self):
        self.wrong("need", need=True)
        self.wrong("of", need=1, of=True)
        self.wrong("base", base=True)
        self.wrong("more", more=True)
        self.wrong("more", more=False)
        self.wrong("most", base=1, most=True)
        self.wrong("calm", calm=False)
        self.wrong("top", top=False)
        self.wrong("under", under=True)

    def test_numbers_just_outside(self):
        for value in (0, -1, -(10**30)):
            self.wrong("need", need=value)
            self.wrong("base", base=value)
        for value in (1, 0, -2):
            self.wrong("of", of=value)
        self.wrong("more", more=-1)
        self.wrong("most", base=3, most=2)
        self.wrong("calm", calm=-1)
        self.wrong("top", top=-1)
        self.wrong("under", top=0, under=0)
        self.wrong("under", top=0, under=-1)
        self.wrong("under", top=3, under=2)
        self.wrong("under", top=10**30, under=10**30 - 1)

    def test_up_is_a_bool(self):
        for value in values():
            if not isinstance(value, bool):
                self.wrong("up", up=value)
        self.wrong("up", up="up")
        self.wrong("up", up="down")

    def test_other_words(self):
        others = ["Half", "half ", " half", "halfopen", "opened", "trials", "faults", "none", "yes", "hal", "u", "-"]
        for name, words in WORDS.items():
            elsewhere = [word for words in WORDS.values() for word in words]
            for value in values() + others + elsewhere:
                if not (isinstance(value, str) and value in words):
                    self.wrong(name, **{name: value})
            for word in words:
                self.wrong(name, **{name: [word]})
                self.wrong(name, **{name: (word,)})

    def test_the_first_of_several(self):
        for first, name in enumerate(NAMES):
            self.wrong(name, **{later: None for later in NAMES[first:]})
            for later in NAMES[first + 1:]:
                for value in (None, [], "x", -5):
                    self.wrong(name, **{name: (), later: value})

    def test_the_first_of_two_that_depend_on_each_other(self):
        self.wrong("need", need=0, of=-1)
        self.wrong("of", need=2, of=1, base=0)
        self.wrong("base", base=0, most=-1)
        self.wrong("most", base=2, most=1, calm=-1)
        self.wrong("back", back="no", top=-1, under=-2)
        self.wrong("top", top=-1, under=-2)
        self.wrong("under", top=2, under=1, up=1)
        self.wrong("up", up=1, hears="open")


class Arguments(unittest.TestCase):
    def right(self, **changed):
        arguments = {**GOOD, **changed}
        for made in (Rule(**arguments), Rule(*[arguments[name] for name in NAMES])):
            for name in NAMES:
                with self.subTest(name=name, **changed):
                    self.assertEqual(getattr(made, name), arguments[name])
                    self.assertEqual(type(getattr(made, name)), type(arguments[name]))

    def test_attributes_are_the_arguments(self):
        self.right()
        self.right(need=1, of=4, base=3, more=0, most=9, calm=6, back="open", top=7, under=9, up=False, hears="no")

    def test_least(self):
        self.right(need=1, of=1, base=1, more=0, most=1, calm=0, top=0, under=1, up=False)
        for name, value in (("need", 1), ("of", 2), ("more", 0), ("calm", 0), ("top", 0), ("under", 1)):
            self.right(**{name: value})
        self.right(base=6, most=6)

    def test_greatest(self):
        self.right(need=4, of=4, base=9, more=9, most=9, calm=6, top=20, under=20, up=True)
        self.right(base=1, more=9, most=9, top=0, under=20)

    def test_beyond_the_limits_is_no_error(self):
        self.right(need=5, of=6, base=10, more=12, most=30, calm=7, top=21, under=30)

    def test_all_words(self):
        for back, hears, up in product(*WORDS.values(), (True, False)):
            self.right(back=back, hears=hears, up=up)


class Numbers(unittest.TestCase):
    def test_time(self):
        made = rule(base=2, more=3, most=9)
        self.assertEqual([made.time(j) for j in range(1, 6)], [2, 5, 8, 9, 9])
        self.assertEqual(made.time(j=2), 5)

    def test_time_where_nothing_grows(self):
        self.assertEqual([rule(base=2, more=0, most=9).time(j) for j in (1, 2, 50, 10**40)], [2] * 4)
        self.assertEqual([rule(base=4, more=5, most=4).time(j) for j in (1, 2, 50, 10**40)], [4] * 4)

    def test_cap(self):
        self.assertEqual(rule(base=2, more=3, most=9).cap, 4)
        self.assertEqual(rule(base=2, more=3, most=8).cap, 3)
        self.assertEqual(rule(base=1, more=9, most=9).cap, 2)
        self.assertEqual(rule(base=1, more=1, most=9).cap, 9)

    def test_cap_where_nothing_grows(self):
        self.assertEqual(rule(base=2, more=0, most=9).cap, 1)
        self.assertEqual(rule(base=9, more=9, most=9).cap, 1)
        self.assertEqual(rule(base=1, more=0, most=1).cap, 1)

    def test_times_and_caps_of_all_small_rules(self):
        for base, more, most in product(range(1, 7), range(6), range(1, 12)):
            if most < base:
                continue
            made = rule(base=base, more=more, most=most)
            times = [min(base + more * (j - 1), most) for j in range(1, 15)]
            with self.subTest(base=base, more=more, most=most):
                self.assertEqual([made.time(j) for j in range(1, 15)], times)
                self.assertEqual(made.cap, min(j for j in range(1, 14) if times[j - 1] == times[j]))

    def test_limit(self):
        down, up = rule(top=2, under=3, up=False), rule(top=2, under=3, up=True)
        self.assertEqual([down.limit(n) for n in range(8)], [0, 0, 1, 2, 2, 3, 4, 4])
        self.assertEqual([up.limit(n) for n in range(8)], [0, 1, 2, 2, 3, 4, 4, 5])
        self.assertEqual((down.limit(n=4), up.limit(n=4)), (2, 3))

    def test_limit_of_no_servers(self):
        for up in (True, False):
            for top, under in ((0, 1), (1, 1), (1, 20), (19, 20), (20, 20)):
                self.assertEqual(rule(top=top, under=under, up=up).limit(0), 0)

    def test_limit_with_top_zero_and_with_top_equal_to_under(self):
        for up in (True, False):
            for n in (0, 1, 2, 7, 999, 1000, 10**40):
                self.assertEqual(rule(top=0, under=7, up=up).limit(n), 0)
                self.assertEqual(rule(top=7, under=7, up=up).limit(n), n)

    def test_limits_of_all_small_shares(self):
        for top, under, n in product(range(8), range(1, 8), range(24)):
            if top <= under:
                least = min(k for k in range(n + 1) if k * under >= n * top)
                greatest = max(k for k in range(n + 1) if k * under <= n * top)
                with self.subTest(top=top, under=under, n=n):
                    self.assertEqual(rule(top=top, under=under, up=True).limit(n), least)
                    self.assertEqual(rule(top=top, under=under, up=False).limit(n), greatest)

    def test_great_arguments(self):
        great = 3 * 10**40
        self.assertEqual(rule(base=1, more=1, most=9).time(great), 9)
        self.assertEqual(rule(top=1, under=3, up=False).limit(great + 1), 10**40)
        self.assertEqual(rule(top=1, under=3, up=True).limit(great + 1), 10**40 + 1)
        self.assertEqual(rule(top=19, under=20, up=False).limit(1000), 950)
        self.assertEqual(rule(top=19, under=20, up=True).limit(999), 950)

    def test_the_results_are_integers(self):
        made = rule(base=1, more=0, most=1, top=1, under=1)
        for value in (made.time(1), made.limit(1), made.cap):
            self.assertIs(type(value), int)


class Texts(unittest.TestCase):
    def refused(self, text):
        with self.subTest(text=text):
            with self.assertRaises(InvalidText) as caught:
                Rule.read(text)
            self.assertEqual(caught.exception.at, 0)

    def wrong(self, word, old, new):
        self.assertIn(old, TEXT)
        with self.subTest(new):
            with self.assertRaises(InvalidRule) as caught:
                Rule.read(TEXT.replace(old, new))
            self.assertEqual(caught.exception.word, word)

    def test_str(self):
        self.assertEqual(str(rule()), TEXT)
        text = "leave 1 of 1 out 9 more 0 most 10 calm 0 back trial share 0/20 down hears fault"
        self.assertEqual(str(Rule(1, 1, 9, 0, 10, 0, "trial", 0, 20, False, "fault")), text)

    def test_read(self):
        for made in (Rule.read(TEXT), Rule.read(text=TEXT)):
            self.assertIs(type(made), Rule)
            for name in NAMES:
                self.assertEqual(getattr(made, name), GOOD[name])
                self.assertIs(type(getattr(made, name)), type(GOOD[name]))
            self.assertEqual(made.cap, 4)

    def test_the_rule_of_the_document(self):
        text = "leave 2 of 2 out 3 more 0 most 3 calm 0 back open share 1/2 down hears no"
        self.assertEqual(Rule.read(text), Rule(2, 2, 3, 0, 3, 0, "open", 1, 2, False, "no"))
        self.assertEqual(Rule.read(text.replace("open", "trial")).back, "trial")

    def test_one_from_the_other(self):
        for back, hears, up in product(*WORDS.values(), (True, False)):
            for need, base, more, top in product((1, 4), (1, 10, 99), (0, 99), (0, 9, 20)):
                made = rule(need=need, of=4, base=base, more=more, most=99, back=back, top=top, under=20,
                            up=up, hears=hears)
                again = Rule.read(str(made))
                self.assertEqual(again, made)
                self.assertEqual(str(again), str(made))
                self.assertEqual([getattr(again, name) for name in NAMES], [getattr(made, name) for name in NAMES])

    def test_up_and_down(self):
        self.assertIs(Rule.read(TEXT).up, True)
        self.assertIs(Rule.read(TEXT.replace(" up ", " down ")).up, False)

    def test_words_left_out_put_in_exchanged(self):
        words = TEXT.split(" ")
        for at, word in enumerate(words):
            self.refused(" ".join(words[:at] + words[at + 1:]))
            self.refused(" ".join(words[:at] + [word] + words[at:]))
            self.refused(" ".join(words[:at] + ["1"] + words[at:]))
            self.refused(" ".join(words[:at]))
            for other in ("", "x", "LEAVE", "hears", word.upper() + "x", word + "x", "-", "1/1/1", "/"):
                self.refused(" ".join(words[:at] + [other] + words[at + 1:]) if other != word else "")
            if at and words[at - 1] != word:
                self.refused(" ".join(words[:at - 1] + [word, words[at - 1]] + words[at + 1:]))

    def test_words_in_capitals(self):
        for at, word in enumerate(TEXT.split(" ")):
            if word.isalpha():
                words = TEXT.split(" ")
                self.refused(" ".join(words[:at] + [word.title()] + words[at + 1:]))
        self.refused(TEXT.upper())

    def test_numbers_that_are_none(self):
        bad = ["", "00", "01", "02", "001", "100", "123", "+1", "-1", "-0", "1.", "1.0", "0x1", "1_0", "_1", "1e1",
               "a", "\u0661", "\u0662", "\uff12", "\u00b2", "\u00bd", "\u0be7\u0be8", "1\u0662", "2\n", "2\t", "\t2",
               "2\r", "\x002", "None", "True", "up", "no"]
        places = {"leave 2": "leave {}", "of 3": "of {}", "out 1": "out {}", "more 2": "more {}", "most 6": "most {}",
                  "calm 4": "calm {}", "1/2": "{}/2", "/2": "/{}"}
        for old, new in places.items():
            self.assertEqual(TEXT.count(old), 1)
            for number in bad:
                self.refused(TEXT.replace(old, new.format(number)))

    def test_shares_that_are_none(self):
        for share in ("1", "/", "1/", "/2", "1//2", "1/2/3", "1 2", "1 / 2", "1/ 2", "1 /2", "1:2", "1\\2", "2", "1/2/"):
            self.refused(TEXT.replace("1/2", share))

    def test_blanks_and_newlines(self):
        for end in (" ", "\n", "\t", "\r", "\r\n", "\x00", "\u00a0", "\u2028"):
            self.refused(TEXT + end)
            self.refused(end + TEXT)
            self.refused(TEXT.replace(" of", end + " of"))
            self.refused(TEXT.replace(" share", " " + end + "share"))
            if end != " ":
                self.refused(TEXT.replace(" ", end))
                self.refused(TEXT.replace(" out", end + "out", 1))
        self.refused(TEXT.replace(" ", "  "))
        self.refused(TEXT.replace(" ", ""))

    def test_the_empty_text_and_others(self):
        for text in ("", " ", "\n", "leave", "x", TEXT + TEXT, TEXT + " " + TEXT, TEXT + "\n" + TEXT, "a" * 2000):
            self.refused(text)

    def test_words_that_are_not_named(self):
        for back in ("no", "fault", "out", "up", "closed", "Open", "0", "None", "hal", "half/2"):
            self.refused(TEXT.replace("half", back))
        for hears in ("half", "open", "trial", "yes", "No", "up", "down", "0", "none", "faults"):
            self.refused(TEXT.replace("hears out", "hears " + hears))
        for side in ("Up", "upwards", "no", "half", "True", "False", "1", "0"):
            self.refused(TEXT.replace(" up ", f" {side} "))

    def test_texts_of_no_rule(self):
        self.wrong("need", "leave 2", "leave 0")
        self.wrong("of", "of 3", "of 1")
        self.wrong("of", "of 3", "of 0")
        self.wrong("base", "out 1", "out 0")
        self.wrong("most", "out 1", "out 7")
        self.wrong("most", "most 6", "most 0")
        self.wrong("under", "1/2", "1/0")
        self.wrong("under", "1/2", "0/0")
        self.wrong("under", "1/2", "3/2")
        self.wrong("under", "1/2", "99/98")

    def test_the_first_wrong_argument_of_a_text(self):
        text = TEXT.replace("leave 2", "leave 0").replace("out 1", "out 0").replace("1/2", "2/1")
        with self.assertRaises(InvalidRule) as caught:
            Rule.read(text)
        self.assertEqual(caught.exception.word, "need")

    def test_the_text_is_looked_at_ahead_of_the_rule(self):
        wrong = TEXT.replace("leave 2", "leave 0")
        self.refused(wrong + " ")
        self.refused(wrong.replace("1/2", "01/2"))
        self.refused(wrong.replace("half", "none"))
        self.refused(wrong.replace("hears out", "hears half"))
        self.refused(wrong.replace(" up ", " no "))
        self.refused(TEXT.replace("1/2", "2/1").replace("hears out", "hears"))
        self.refused(TEXT.replace("of 3", "of 1").replace("calm 4", "calm 100"))


class Likeness(unittest.TestCase):
    def test_equal_if_the_texts_are(self):
        self.assertIs(rule() == rule(), True)
        self.assertIs(rule() != rule(), False)
        self.assertEqual(rule(), Rule.read(TEXT))

    def test_each_argument_counts(self):
        others = {"need": 1, "of": 4, "base": 2, "more": 1, "most": 7, "calm": 0, "back": "open", "top": 2, "under": 3,
                  "up": False, "hears": "no"}
        for name, value in others.items():
            with self.subTest(name):
                self.assertIs(rule() == rule(**{name: value}), False)
                self.assertIs(rule() != rule(**{name: value}), True)

    def test_rules_that_do_the_same_are_not_equal(self):
        self.assertNotEqual(rule(top=1, under=2), rule(top=2, under=4))
        self.assertNotEqual(rule(base=3, more=0, most=3), rule(base=3, more=0, most=4))

    def test_never_equal_to_anything_of_another_class(self):
        class Look:
            def __init__(self):
                for name in NAMES:
                    setattr(self, name, GOOD[name])
                self.cap = 4

            def __str__(self):
                return TEXT

        made = rule()
        arguments = tuple(GOOD.values())
        for other in [Look(), TEXT, arguments, list(arguments), dict(GOOD), None, 0, True, Road(1, 1), object()]:
            with self.subTest(other=other):
                self.assertIs(made == other, False)
                self.assertIs(other == made, False)
                self.assertIs(made != other, True)


class Conventions(unittest.TestCase):
    def test_the_same_call_again(self):
        made = rule()
        first = [made.time(3), made.limit(7), made.cap, str(made), Rule.read(TEXT)]
        self.assertEqual([made.time(3), made.limit(7), made.cap, str(made), Rule.read(TEXT)], first)

    def test_a_rule_does_not_change(self):
        made = rule()
        made.time(5), made.limit(9), str(made), made == rule(up=False)
        with self.assertRaises(InvalidRule):
            rule(need=0)
        with self.assertRaises(InvalidText):
            Rule.read("")
        self.assertEqual([getattr(made, name) for name in NAMES], list(GOOD.values()))

    def test_a_rule_is_not_iterable(self):
        for read in (iter, list, tuple, sorted):
            with self.assertRaises(TypeError):
                read(rule())
        with self.assertRaises(TypeError):
            2 in rule()


if __name__ == "__main__":
    unittest.main()
