"""Tests of [13] and [14], and of [1] to [3] for them: with how many servers something happens, and on which road."""

import unittest
from itertools import product

from sitout.deciding import happens, numbers, road
from sitout.errors import InvalidGoal
from sitout.plays import play
from sitout.roads import Road
from sitout.rules import Rule
from tests import look
from tests.samples import values

GOALS = ("all", "kept", "swap")
BACKS = ("open", "half", "trial")
HEARINGS = ("fault", "out", "no")

FAST = "leave 2 of 2 out 3 more 0 most 3 calm 0 back open share 1/2 down hears no"

# As far as this the tests look for numbers of servers.
FAR = 90


def rule(**changed):
    given = {
        "need": 2, "of": 2, "base": 3, "more": 0, "most": 3, "calm": 0, "back": "open",
        "top": 1, "under": 2, "up": False, "hears": "no",
    }
    return Rule(**{**given, **changed})


def shares(greatest):
    """All shares up to a number, each way."""
    return [
        {"top": top, "under": under, "up": up}
        for under in range(1, greatest + 1) for top in range(under + 1) for up in (True, False)
    ]


def can_be_out_and_missed(made):
    """Whether some row of letters leaves a server out, or on trial, with its last turn missed: all rows are tried."""
    seen = {(("in", (), 0, 0), False)}
    waiting = list(seen)
    while waiting:
        standing, missed = waiting.pop()
        if missed and standing[0] != "in":
            return True
        for word in ("ok", "fault", "told"):
            behind, what, _, _ = look.change(made, standing, word, True)
            state = (behind, missed if what == "told" else what == "missed")
            if state not in seen:
                seen.add(state)
                waiting.append(state)
    return False


def expected(made, goal):
    """The pair that [13] and [14] tell, of all numbers of servers that the tests look at."""
    right = []
    for n in range(1, FAR + 1):
        limit = look.limit(made, n)
        right.append({"all": limit == n, "kept": limit < n, "swap": 1 <= limit < n}[goal])
    if goal == "swap" and not can_be_out_and_missed(made):
        return None
    fitting = [n for n in range(1, FAR + 1) if right[n - 1]]
    if not fitting:
        return None
    least, greatest = fitting[0], fitting[-1]
    assert fitting == list(range(least, greatest + 1))
    return least, None if greatest == FAR else greatest


class Case(unittest.TestCase):
    def right(self, made, goal, pair):
        """The three functions tell just this pair of numbers."""
        with self.subTest(rule=str(made), goal=goal):
            found = numbers(made, goal)
            self.assertEqual(found, pair)
            self.assertEqual(repr(found), repr(pair))
            self.assertIs(happens(made, goal), pair is not None)
            self.meets(made, goal, pair)

    def meets(self, made, goal, pair):
        """The road that is told is one: with the least number of servers it meets the goal by its last event."""
        found = road(made, goal)
        if pair is None:
            self.assertIsNone(found)
            return
        self.assertIs(type(found), Road)
        self.assertEqual(found.servers, pair[0])
        self.assertGreater(len(found), 0)
        seen = look.look_play(made, found)
        self.assertIsInstance(seen, dict, "the road cannot be played")
        self.assertIn((len(found) - 1, goal), seen["met"])
        self.assertEqual(play(made, found).met, seen["met"])
        self.assertEqual(Road.read(str(found)), found)


class Shares(Case):
    def test_the_example_of_the_document(self):
        fast = Rule.read(FAST)
        self.assertEqual((numbers(fast, "all"), numbers(fast, "swap")), (None, (2, None)))
        self.assertEqual(numbers(Rule.read(FAST.replace("down", "up")), "all"), (1, 1))

    def test_a_share_that_is_rounded_down(self):
        for top, under, least in ((1, 2, 2), (1, 3, 3), (2, 3, 2), (3, 4, 2), (2, 5, 3), (2, 4, 2), (1, 20, 20), (19, 20, 2)):
            made = rule(top=top, under=under)
            self.right(made, "all", None)
            self.right(made, "kept", (1, None))
            self.right(made, "swap", (least, None))

    def test_a_share_that_is_rounded_up(self):
        for top, under, most in ((1, 2, 1), (1, 3, 1), (2, 3, 2), (3, 4, 3), (3, 5, 2), (2, 4, 1), (4, 6, 2), (1, 20, 1), (19, 20, 19)):
            made = rule(top=top, under=under, up=True)
            self.right(made, "all", (1, most))
            self.right(made, "kept", (most + 1, None))
            self.right(made, "swap", (most + 1, None))

    def test_a_share_of_nothing(self):
        for under, up in product((1, 2, 7, 20), (True, False)):
            made = rule(top=0, under=under, up=up)
            self.right(made, "all", None)
            self.right(made, "kept", (1, None))
            self.right(made, "swap", None)

    def test_a_share_of_all(self):
        for under, up in product((1, 2, 7, 20), (True, False)):
            made = rule(top=under, under=under, up=up)
            self.right(made, "all", (1, None))
            self.right(made, "kept", None)
            self.right(made, "swap", None)

    def test_all_shares_up_to_20(self):
        for share in shares(20):
            made = rule(need=1, of=1, **share)
            for goal in GOALS:
                self.right(made, goal, expected(made, goal))

    def test_all_shares_up_to_6_for_each_way_to_hear_and_to_come_back(self):
        for share, back, hears, most in product(shares(6), BACKS, HEARINGS, (1, 2)):
            made = rule(back=back, hears=hears, base=1, most=most, more=most - 1, **share)
            for goal in GOALS:
                self.right(made, goal, expected(made, goal))


class Swaps(Case):
    """What is missed has to be out still, or again, or on trial."""

    def test_out_for_one_turn_only(self):
        for more, most in ((0, 1), (0, 5), (3, 1)):
            for back in ("open", "half"):
                self.right(rule(base=1, more=more, most=most, back=back), "swap", None)

    def test_out_for_one_turn_and_then_on_trial(self):
        self.right(rule(base=1, most=1, back="trial"), "swap", (2, None))

    def test_out_for_one_turn_and_then_left_out_by_words(self):
        for back, hears, need in product(("open", "half"), ("out", "fault"), (1, 2, 3, 4)):
            self.right(rule(base=1, most=1, back=back, hears=hears, need=need, of=4), "swap", (2, None))

    def test_out_for_more_turns_the_next_time(self):
        for calm, back in product((0, 1, 6), ("open", "half")):
            self.right(rule(base=1, more=1, most=2, calm=calm, back=back), "swap", (2, None))
            self.right(rule(base=1, more=9, most=9, calm=calm, back=back, need=4, of=4), "swap", (2, None))

    def test_out_for_two_turns_at_once(self):
        self.right(rule(base=2, most=2), "swap", (2, None))

    def test_all_and_kept_do_not_ask_for_it(self):
        made = rule(base=1, most=1, up=True)
        self.right(made, "all", (1, 1))
        self.right(made, "kept", (2, None))


class Many(Case):
    def test_roads_searched_through_for_one_caller(self):
        counts = ((1, 1, 1, 0, 1, 0), (1, 2, 1, 1, 2, 1), (2, 2, 1, 0, 1, 0), (2, 2, 2, 0, 2, 1))
        places = ((0, 1, True), (1, 1, False), (1, 2, True), (1, 2, False), (2, 3, True), (2, 3, False), (1, 3, False))
        for (need, of, base, more, most, calm), back, (top, under, up) in product(counts, BACKS, places):
            made = Rule(need, of, base, more, most, calm, back, top, under, up, "no")
            for servers in (1, 2, 3) if need == 1 else (1, 2):
                self.agrees(made, 1, servers)

    def test_roads_searched_through_for_two_callers(self):
        places = ((0, 2, False), (2, 2, True), (1, 2, True), (1, 2, False), (2, 3, True))
        for back, (top, under, up), hears in product(BACKS, places, HEARINGS):
            made = Rule(1, 1, 1, 0, 1, 0, back, top, under, up, hears)
            self.agrees(made, 2, 1)
            # With room for both of two servers there is too much to search through.
            if look.limit(made, 2) < 2:
                self.agrees(made, 2, 2)

    def agrees(self, made, callers, servers):
        """Some road meets a goal just if the number of servers is one that is told."""
        found = look.reached(made, callers, servers)
        for goal in GOALS:
            pair = numbers(made, goal)
            told = pair is not None and pair[0] <= servers and (pair[1] is None or servers <= pair[1])
            with self.subTest(rule=str(made), goal=goal, callers=callers, servers=servers):
                self.assertEqual(told, goal in found)

    def test_many_rules(self):
        counts = ((1, 1), (1, 3), (2, 2), (2, 4), (3, 3), (4, 4))
        paces = ((1, 0, 1), (1, 0, 4), (1, 1, 2), (1, 2, 5), (2, 0, 2), (2, 3, 9), (9, 9, 9))
        ways = list(product(shares(3), BACKS, HEARINGS, (0, 1, 2, 6)))
        at = 0
        for (need, of), (base, more, most) in product(counts, paces):
            for (share, back, hears, calm) in ways[at % 5::5]:
                made = Rule(need, of, base, more, most, calm, back, hears=hears, **share)
                for goal in GOALS:
                    self.right(made, goal, expected(made, goal))
            at += 1

    def test_at_the_limits_and_beyond_them(self):
        for top, under, up in ((19, 20, True), (1, 20, False), (10, 20, True), (24, 25, True), (1, 30, False)):
            for back, hears in product(BACKS, HEARINGS):
                made = Rule(4, 4, 1, 1, 9, 6, back, top, under, up, hears)
                beyond = Rule(5, 6, 1, 1, 12, 8, back, top, under, up, hears)
                for goal in GOALS:
                    self.right(made, goal, expected(made, goal))
                    self.right(beyond, goal, expected(beyond, goal))


class Wrong(Case):
    def test_what_is_no_goal(self):
        others = ["All", "all ", " all", "al", "alls", "KEPT", "keep", "swaps", "swap\n", "felt", "missed", "full", "told"]
        others += [list(GOALS), GOALS, ["all"], ("swap",), [("kept",)], [["all"]], {}, {"all": 1}]
        others += [rule(), Road(1, 1), [rule()], InvalidGoal(), play(rule(), Road(1, 1))]
        for value in values() + others:
            for asked in (numbers, happens, road):
                with self.subTest(value=value, asked=asked.__name__):
                    with self.assertRaises(InvalidGoal) as caught:
                        asked(rule(), value)
                    self.assertIs(type(caught.exception), InvalidGoal)

    def test_ahead_of_everything_else(self):
        for value in (None, "", "swapped", 0, True, ["all"], rule()):
            for other in (None, "", 3, [], FAST, Road(1, 1)):
                for asked in (numbers, happens, road):
                    with self.assertRaises(InvalidGoal):
                        asked(other, value)

    def test_also_where_no_goal_is_met(self):
        for made in (rule(top=0), rule(top=2), rule(base=1, most=1)):
            for asked in (numbers, happens, road):
                with self.assertRaises(InvalidGoal):
                    asked(made, "none")


class Conventions(Case):
    def test_arguments_by_name(self):
        for goal in GOALS:
            made = rule(up=True)
            self.assertEqual(numbers(rule=made, goal=goal), numbers(made, goal))
            self.assertEqual(happens(rule=made, goal=goal), happens(made, goal))
            self.assertEqual(road(rule=made, goal=goal), road(made, goal))
            self.assertEqual(road(goal=goal, rule=made), road(made, goal))

    def test_the_same_call_again(self):
        for made in (rule(), rule(base=1, most=1, hears="fault"), rule(top=0)):
            first = [(numbers(made, goal), happens(made, goal), road(made, goal)) for goal in GOALS]
            numbers(rule(back="trial"), "swap")
            road(rule(up=True), "all")
            self.assertEqual([(numbers(made, goal), happens(made, goal), road(made, goal)) for goal in GOALS], first)

    def test_nothing_is_changed(self):
        made = rule(base=1, most=1, hears="out")
        before = (str(made), dict(vars(made)))
        for goal in GOALS:
            numbers(made, goal), happens(made, goal), road(made, goal)
        self.assertEqual((str(made), dict(vars(made))), before)

    def test_kinds_of_what_is_told(self):
        for goal in GOALS:
            self.assertIs(type(numbers(rule(up=True), goal)), tuple)
            self.assertIs(happens(rule(up=True), goal), True)
            self.assertIs(happens(rule(top=2), "swap"), False)


if __name__ == "__main__":
    unittest.main()
