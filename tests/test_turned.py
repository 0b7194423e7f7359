"""Promises 1 (b) and 11: how far own marks can move a rank in small crowds, told by trying."""

import random
import unittest
from fractions import Fraction

from ownmarks.crowds import Crowd
from ownmarks.errors import BadArgument, NotThere, TooMany
from ownmarks.pages import Page
from ownmarks.rules import Rule
from ownmarks.swings import is_moved, lift, reach
from ownmarks.turned import count_sums, turned_lift, turned_lifts, turned_pages, turned_reach
from tests.helping import (ODD, TURNS, RefusingCase, all_pages, all_rows, calls_in, crowd_of, plain_ranks, plain_turned, some_page, some_rule,
                           tried_lifts)

SUMS = [("sum", 0), ("mean", 0)]
OF_PERSON = [turned_lift, count_sums, turned_pages]


def some_small_rules(many, seed, sizes):
    """Rules by lot, of each turn in turn, of crowds with these numbers of people and greatest marks."""
    chance = random.Random(seed)
    for at in range(many):
        people, most = sizes[at % len(sizes)]
        for turn in TURNS:
            yield some_rule(crowd_of(people, most), chance, turn, SUMS)


def plain_parts(rule, members, marker):
    """All that the turned rows of a marker can say of the members."""
    rows = [plain_turned(rule.turn, row) for row in all_rows(rule.crowd, marker)]
    return {tuple(row[member] if (marker, member) in rule else 0 for member in members) for row in rows}


def plain_added(one, other):
    return tuple(part + more for part, more in zip(one, other))


def plain_sums(rule, person):
    """All sums of somebody, by all rows of all others."""
    members = [member for member in rule.list_of(person) if rule.readers(member)]
    found = {(0,) * len(members)}
    for marker in rule.crowd:
        if marker != person:
            parts = plain_parts(rule, members, marker)
            found = {plain_added(sums, part) for sums in found for part in parts}
    return found


def tried_sums(rule, person):
    """How many unlike sums there are."""
    return len(plain_sums(rule, person))


def lift_by_sums(rule, person):
    """The lift of somebody in a list of two or more, by trying all own rows with each of its sums."""
    members = rule.list_of(person)
    place, divided = members.index(person), [len(rule.readers(member)) if rule.gather == "mean" else 1 for member in members]
    own = plain_parts(rule, members, person)
    widest = 0
    for sums in plain_sums(rule, person):
        ranks = []
        for part in own:
            worths = [(-Fraction(worth) / many, at) for at, (worth, many) in enumerate(zip(plain_added(sums, part), divided))]
            ranks.append(sorted(worths).index(worths[place]))
        widest = max(widest, max(ranks) - min(ranks))
    return widest


def sums_by_pages(rule, person):
    """The same by all full pages."""
    members = [member for member in rule.list_of(person) if rule.readers(member)]
    found = set()
    for page in all_pages(rule.crowd):
        rows = {marker: plain_turned(rule.turn, page.row(marker)) for marker in rule.crowd if marker != person}
        found.add(tuple(sum(rows[reader][member] for reader in rule.readers(member) if reader != person) for member in members))
    return len(found)


class TurnedLiftTest(unittest.TestCase):
    def test_ordinary(self):
        rule = Rule(crowd_of(3, 2), turn="centred")
        self.assertEqual(turned_lifts(rule), {"a": 1, "b": 1, "c": 1})
        self.assertEqual(turned_lifts(rule.changed(turn="placed")), {"a": 1, "b": 1, "c": 1})
        self.assertEqual(turned_lifts(rule.changed(turn="plain")), {"a": 2, "b": 2, "c": 2})
        self.assertEqual(turned_lift(rule, "b"), 1)

    def test_two_people(self):
        # A row of one mark turns to nought.
        for turn, places in [("plain", 1), ("centred", 0), ("placed", 0)]:
            for gather in ("sum", "mean"):
                self.assertEqual(turned_lifts(Rule(crowd_of(2, 10), turn=turn, gather=gather)), {"a": places, "b": places})

    def test_nothing_to_move(self):
        for turn in TURNS:
            self.assertEqual(turned_lifts(Rule(Crowd(["a"], 10), turn=turn)), {"a": 0})
            rule = Rule(crowd_of(3, 2), turn=turn, reads=[("a", "b"), ("b", "a")], lists=[["a"], ["b"], ["c"]])
            self.assertEqual(turned_lifts(rule), {"a": 0, "b": 0, "c": 0})
            rule = rule.changed(reads=[("c", "a"), ("c", "b")], lists=[["a", "b"], ["c"]])
            self.assertEqual(turned_lifts(rule), {"a": 0, "b": 0, "c": 0})

    def check(self, rule):
        told = tried_lifts(rule)
        self.assertEqual(turned_lifts(rule), told)
        self.assertEqual({person: turned_lift(rule, person) for person in rule.crowd}, told)
        self.assertEqual(list(turned_lifts(rule)), rule.crowd.people)

    def test_all_full_pages(self):
        for rule in some_small_rules(40, 31, [(1, 3), (2, 1), (2, 2), (2, 3), (3, 1)]):
            self.check(rule)
        for rule in some_small_rules(8, 32, [(3, 2)]):
            self.check(rule)
        for rule in some_small_rules(3, 33, [(4, 1)]):
            self.check(rule)

    def test_all_full_pages_of_rules_that_read_all(self):
        for turn in TURNS:
            for gather in ("sum", "mean"):
                self.check(Rule(crowd_of(3, 2), turn=turn, gather=gather))
            self.check(Rule(crowd_of(4, 1), turn=turn, gather="mean", lists=[["a", "c", "d"], ["b"]]))

    def test_plain_rows_as_in_swings(self):
        chance = random.Random(34)
        for people, most in [(4, 3), (4, 2), (3, 7), (2, 10), (1, 10), (4, 3)]:
            for gathers in ([("sum", 0)], [("mean", 0)]):
                rule = some_rule(crowd_of(people, most), chance, "plain", gathers)
                self.assertEqual(turned_lifts(rule), {person: lift(rule, person) for person in rule.crowd})


    def test_all_own_rows_with_all_sums(self):
        for rule in some_small_rules(5, 42, [(3, 4), (3, 3), (2, 10), (3, 5), (4, 1)]):
            told = {person: lift_by_sums(rule, person) if len(rule.list_of(person)) > 1 else 0 for person in rule.crowd}
            self.assertEqual(turned_lifts(rule), told)
        rule = Rule(crowd_of(4, 2), turn="placed", gather="mean", reads=[("a", "b"), ("b", "c"), ("c", "b"), ("c", "a"), ("d", "c")],
                    lists=[["a", "b", "c"], ["d"]])
        self.assertEqual([turned_lift(rule, person) for person in "abc"], [lift_by_sums(rule, person) for person in "abc"])

    def test_few_steps(self):
        # Sum by sum and row by row it was 48000 for plain rows, 90000 for others.
        for turn, most in [("plain", 5000), ("centred", 15000), ("placed", 15000)]:
            rule = Rule(crowd_of(4, 1), turn=turn, gather="mean")
            steps = [calls_in(call, rule, person) for person in rule.crowd for call in (turned_lift, turned_pages)]
            self.assertLess(sum(steps), most)


class CountSumsTest(unittest.TestCase):
    def test_ordinary(self):
        rule = Rule(crowd_of(3, 2))
        # The others together: 0 to 4 for the one asked, and from one of them 0 to 2 for each of the two.
        self.assertEqual([count_sums(rule, person) for person in "abc"], [45, 45, 45])
        self.assertEqual(count_sums(rule.changed(gather="mean"), "a"), 45)
        self.assertEqual(count_sums(Rule(crowd_of(2, 10)), "a"), 11)
        self.assertEqual(count_sums(Rule(crowd_of(2, 10), turn="centred"), "a"), 1)

    def test_people_without_readers(self):
        rule = Rule(crowd_of(3, 2), reads=[("a", "b"), ("c", "b")], lists=[["a"], ["b"], ["c"]])
        self.assertEqual([count_sums(rule, person) for person in "abc"], [1, 5, 1])
        self.assertEqual(count_sums(Rule(Crowd(["a"], 3)), "a"), 1)

    def test_only_the_others_count(self):
        rule = Rule(crowd_of(3, 2), reads=[("a", "b"), ("b", "a"), ("a", "c"), ("c", "b")], lists=[["a", "b", "c"]])
        # Of what is said of the list, b gives a its mark and c gives b its own: nothing else comes from the others of a.
        self.assertEqual(count_sums(rule, "a"), 9)

    def test_all_full_pages(self):
        for rule in some_small_rules(25, 35, [(1, 2), (2, 3), (3, 1), (3, 1), (3, 2)]):
            for person in rule.crowd:
                told = sums_by_pages(rule, person)
                self.assertEqual(count_sums(rule, person), told)
                self.assertEqual(tried_sums(rule, person), told)
        for rule in some_small_rules(1, 36, [(4, 1)]):
            self.assertEqual(count_sums(rule, "b"), sums_by_pages(rule, "b"))

    def test_all_rows_of_the_others(self):
        for rule in some_small_rules(3, 37, [(4, 3), (4, 2), (3, 7)]):
            for person in rule.crowd.people[1:3]:
                self.assertEqual(count_sums(rule, person), tried_sums(rule, person))


class TurnedPagesTest(unittest.TestCase):
    def check(self, rule):
        for person in rule.crowd:
            places, told = turned_lift(rule, person), turned_pages(rule, person)
            self.assertEqual(turned_pages(rule, person), told)
            if places == 0:
                self.assertIs(told, None)
                continue
            self.assertIs(type(told), tuple)
            page, other = told
            self.assertTrue(page.is_full and other.is_full and page.crowd == other.crowd == rule.crowd)
            self.assertEqual({pair[0] for pair in rule.crowd.pairs() if page[pair] != other[pair]}, {person})
            self.assertEqual(plain_ranks(rule, other)[person] - plain_ranks(rule, page)[person], places)
            self.assertIs(is_moved(rule, person, places, told), True)

    def test_small(self):
        for rule in some_small_rules(60, 38, [(1, 3), (2, 3), (3, 1), (3, 2), (3, 3), (4, 1)]):
            self.check(rule)

    def test_as_great_as_may_be(self):
        for rule in some_small_rules(6, 39, [(4, 3), (3, 7), (2, 10)]):
            self.check(rule)


class TurnedReachTest(unittest.TestCase):
    def test_ordinary(self):
        rule = Rule(crowd_of(3, 2), turn="centred")
        page = Page.filled(rule.crowd, 1)
        self.assertEqual([turned_reach(rule, page, person) for person in "abc"], [(1, 2), (2, 2), (2, 3)])
        self.assertEqual(turned_reach(rule.changed(lists=[["a"], ["b", "c"]]), page, "a"), (1, 1))
        self.assertEqual(turned_reach(Rule(Crowd(["a"], 3), turn="placed"), Page.filled(Crowd(["a"], 3), 0), "a"), (1, 1))

    def test_trying_all_own_rows(self):
        chance = random.Random(40)
        for rule in some_small_rules(40, 41, [(1, 3), (2, 3), (3, 1), (3, 2), (4, 1), (4, 2)]):
            page = some_page(rule.crowd, chance, 0)
            for person in rule.crowd:
                told = [plain_ranks(rule, page.with_row(person, row))[person] for row in all_rows(rule.crowd, person)]
                self.assertEqual(turned_reach(rule, page, person), (min(told), max(told)))
                if rule.turn == "plain":
                    self.assertEqual(turned_reach(rule, page, person), reach(rule, page, person))


class WrongArgumentsTest(RefusingCase):
    def setUp(self):
        self.crowd = crowd_of(3, 2)
        self.rule = Rule(self.crowd, turn="centred")
        self.page = Page.filled(self.crowd, 1)
        self.great = Rule(crowd_of(5, 2), turn="placed")

    def test_rule(self):
        others = [Rule(self.crowd, gather=gather) for gather in ("median", "least", "greatest")]
        others += [Rule(crowd_of(4, 3), gather="trim", trim=1), Rule(crowd_of(8, 10), gather="median")]
        for value in ODD + [self.crowd, self.page] + others:
            for call in OF_PERSON:
                self.refused(BadArgument, "value", value, call, value, "z")
                self.refused(BadArgument, "value", value, call, person="a", rule=value)
            self.refused(BadArgument, "value", value, turned_lifts, value)
            self.refused(BadArgument, "value", value, turned_lifts, rule=value)
            self.refused(BadArgument, "value", value, turned_reach, value, None, "z")
            self.refused(BadArgument, "value", value, turned_reach, page=self.page, person="a", rule=value)

    def test_person(self):
        for value in ODD + ["d"]:
            for call in OF_PERSON:
                self.refused(NotThere, "word", value, call, self.rule, value)
                self.refused(NotThere, "word", value, call, person=value, rule=self.rule)
            self.refused(NotThere, "word", value, turned_reach, self.rule, self.page, value)
        for call in OF_PERSON:
            self.refused(NotThere, "word", "f", call, self.great, "f")

    def test_page(self):
        pages = [Page.filled(crowd_of(3, 3), 1), Page.filled(crowd_of(4, 2), 1), Page.filled(Crowd(["b", "a", "c"], 2), 1)]
        pages += [Page.filled(self.crowd, None), self.page.with_mark(("b", "c"), None), self.page.with_mark(("a", "c"), None)]
        for value in ODD + pages + [self.rule]:
            self.refused(BadArgument, "value", value, turned_reach, self.rule, value, "z")
            self.refused(BadArgument, "value", value, turned_reach, person="a", page=value, rule=self.rule)

    def test_too_many_rows(self):
        for turn in TURNS:
            for people, most in [(4, 4), (4, 10), (3, 8), (3, 10), (5, 1), (6, 1), (8, 10)]:
                rule = Rule(crowd_of(people, most), turn=turn, gather="mean")
                for call in OF_PERSON:
                    self.refused_many(call, rule, "a")
                self.refused_many(turned_lifts, rule)
                self.refused_many(turned_reach, rule, Page.filled(rule.crowd, 1), "a")

    def refused_many(self, call, *given):
        with self.assertRaises(TooMany) as caught:
            call(*given)
        self.assertEqual(caught.exception.most, 64)

    def test_as_many_rows_as_may_be(self):
        for turn in TURNS:
            for people, most in [(4, 3), (3, 7), (2, 10), (1, 10)]:
                rule = Rule(crowd_of(people, most), turn=turn)
                page = Page.filled(rule.crowd, 1)
                self.assertEqual(len(turned_lifts(rule)), people)
                self.assertGreater(count_sums(rule, "a"), 0)
                self.assertEqual(turned_pages(rule, "a") is None, turned_lift(rule, "a") == 0)
                self.assertEqual(len(turned_reach(rule, page, "a")), 2)

    def test_wrong_arguments_ahead_of_too_many_rows(self):
        page = Page.filled(self.great.crowd, 1)
        self.refused(NotThere, "word", "z", turned_lift, self.great, "z")
        self.refused(BadArgument, "value", self.page, turned_reach, self.great, self.page, "a")
        self.refused(NotThere, "word", "z", turned_reach, self.great, page, "z")
        lacking = page.with_mark(("a", "b"), None)
        self.refused(BadArgument, "value", lacking, turned_reach, self.great, lacking, "z")

    def test_by_name(self):
        for call in OF_PERSON:
            self.assertEqual(call(person="a", rule=self.rule), call(self.rule, "a"))
        self.assertEqual(turned_lifts(rule=self.rule)["a"], 1)
        self.assertEqual(turned_reach(person="a", rule=self.rule, page=self.page), turned_reach(self.rule, self.page, "a"))

    def test_told_dicts_belong_to_the_caller(self):
        turned_lifts(self.rule).clear()
        self.assertEqual(len(turned_lifts(self.rule)), 3)


if __name__ == "__main__":
    unittest.main()
