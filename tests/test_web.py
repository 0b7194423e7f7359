"""Promise 8: what ranks read, own reads, and safe rules."""

import itertools
import random
import unittest

from ownmarks.crowds import Crowd
from ownmarks.errors import BadArgument, NotThere
from ownmarks.pages import Page
from ownmarks.rules import Rule
from ownmarks.scores import ranks
from ownmarks.web import is_safe, own_reads, rank_reads, safe_people, ways
from tests.helping import ODD, TURNS, RefusingCase, all_pages, all_rows, crowd_of, some_page, some_rule

FOUR = [("a", "c"), ("a", "d"), ("c", "a"), ("d", "b")]


def plain_rank_reads(rule, person):
    """The words of the promise, pair by pair."""
    members = [members for members in rule.lists if person in members][0]
    told = []
    for marker, marked in rule.crowd.pairs():
        for member in members:
            if rule.turn == "plain":
                counts = marked == member and marker in rule.readers(member)
            else:
                counts = marker in rule.readers(member)
            if counts and len(members) > 1 and (marker, marked) not in told:
                told.append((marker, marked))
    return told


class RankReadsTest(unittest.TestCase):
    def setUp(self):
        self.crowd = crowd_of(4, 2)
        self.rule = Rule(self.crowd, reads=FOUR, lists=[["a", "b"], ["c", "d"]])

    def test_plain(self):
        self.assertEqual(rank_reads(self.rule, "a"), [("c", "a"), ("d", "b")])
        self.assertEqual(rank_reads(self.rule, "b"), [("c", "a"), ("d", "b")])
        self.assertEqual(rank_reads(self.rule, "c"), [("a", "c"), ("a", "d")])
        self.assertEqual(rank_reads(Rule(self.crowd), "d"), self.crowd.pairs())

    def test_other_rows(self):
        for turn in ("centred", "placed"):
            rule = self.rule.changed(turn=turn)
            self.assertEqual(rank_reads(rule, "b"), [("c", "a"), ("c", "b"), ("c", "d"), ("d", "a"), ("d", "b"), ("d", "c")])
            self.assertEqual(rank_reads(rule, "d"), [("a", "b"), ("a", "c"), ("a", "d")])

    def test_list_of_one(self):
        for turn in TURNS:
            rule = Rule(self.crowd, turn=turn, lists=[["a"], ["b", "c", "d"]])
            self.assertEqual((rank_reads(rule, "a"), own_reads(rule, "a")), ([], []))
        self.assertEqual(rank_reads(Rule(self.crowd, lists=[["a"], ["b", "c", "d"]]), "b"),
                         [pair for pair in self.crowd.pairs() if pair[1] != "a"])

    def test_own_reads(self):
        self.assertEqual([own_reads(self.rule, person) for person in "abcd"], [[], [], [], []])
        reads = FOUR + [("d", "c"), ("b", "a")]
        for turn in TURNS:
            rule = self.rule.changed(reads=reads, turn=turn)
            self.assertEqual([own_reads(rule, person) for person in "abcd"], [[], [("b", "a")], [], [("d", "c")]])
        self.assertEqual(own_reads(Rule(self.crowd), "b"), [("b", "a"), ("b", "c"), ("b", "d")])

    def test_safe(self):
        self.assertEqual(safe_people(self.rule), ["a", "b", "c", "d"])
        self.assertIs(is_safe(self.rule), True)
        for turn in TURNS:
            rule = self.rule.changed(reads=FOUR + [("d", "c")], turn=turn)
            self.assertEqual(safe_people(rule), ["a", "b", "c"])
            self.assertIs(is_safe(rule), False)
        self.assertEqual(safe_people(Rule(self.crowd)), [])
        self.assertIs(is_safe(Rule(self.crowd)), False)
        self.assertIs(is_safe(Rule(Crowd(["a"], 1))), True)
        self.assertIs(is_safe(Rule(self.crowd, lists=[["a"], ["b"], ["c"], ["d"]])), True)

    def test_ways(self):
        self.assertEqual(list(ways(self.rule)), [("c", "a", "a"), ("d", "b", "a"), ("c", "a", "b"), ("d", "b", "b"),
                                                 ("a", "c", "c"), ("a", "d", "c"), ("a", "c", "d"), ("a", "d", "d")])
        self.assertEqual(list(ways(Rule(Crowd(["a"], 1)))), [])
        told = ways(self.rule)
        self.assertEqual(next(told), ("c", "a", "a"))
        self.assertEqual(len(list(told)), 7)
        self.assertIs(iter(told), told)

    def test_by_lot(self):
        chance = random.Random(6)
        for turn in TURNS:
            for _ in range(80):
                crowd = crowd_of(chance.randint(1, 8), 2)
                rule = some_rule(crowd, chance, turn)
                reads = {person: plain_rank_reads(rule, person) for person in crowd}
                own = {person: [(marker, marked) for marker, marked in rule.reads
                                if marker == person and marked in rule.list_of(person)] for person in crowd}
                self.assertEqual({person: rank_reads(rule, person) for person in crowd}, reads)
                self.assertEqual({person: own_reads(rule, person) for person in crowd}, own)
                self.assertEqual(safe_people(rule), [person for person in crowd if not own[person]])
                self.assertEqual(is_safe(rule), not any(own.values()))
                self.assertEqual(list(ways(rule)), [pair + (person,) for person in crowd for pair in reads[person]])


class WhatCountsTest(unittest.TestCase):
    def test_pages_equal_in_what_is_read_give_the_same_rank(self):
        chance = random.Random(7)
        for turn in TURNS:
            for _ in range(60):
                crowd = crowd_of(chance.randint(2, 5), 2)
                rule, page, other = some_rule(crowd, chance, turn), some_page(crowd, chance, 4), some_page(crowd, chance, 4)
                for person in crowd:
                    mixed = other
                    for pair in rank_reads(rule, person):
                        mixed = mixed.with_mark(pair, page[pair])
                    self.assertEqual(ranks(rule, mixed)[person], ranks(rule, page)[person])

    def test_without_own_reads_own_rows_move_nothing(self):
        chance = random.Random(8)
        for turn in TURNS:
            for _ in range(40):
                crowd = crowd_of(chance.randint(2, 4), 2)
                rule, page = some_rule(crowd, chance, turn), some_page(crowd, chance, 4)
                for person in safe_people(rule):
                    told = {ranks(rule, page.with_row(person, row))[person] for row in all_rows(crowd, person)}
                    self.assertEqual(len(told), 1)

    def test_each_own_read_moves_the_rank_by_one_place_on_some_page(self):
        chance = random.Random(9)
        for _ in range(8):
            crowd = crowd_of(3, chance.randint(1, 2))
            rule = some_rule(crowd, chance, gathers=[("sum", 0), ("mean", 0), ("median", 0), ("least", 0), ("greatest", 0)])
            pages = all_pages(crowd)
            told = {tuple(page.marks.values()): ranks(rule, page) for page in pages}
            for person, pair in itertools.product(crowd, crowd.pairs()):
                if pair[0] == person:
                    at = crowd.pairs().index(pair)
                    moves = [abs(found[person] - told[marks[:at] + (other,) + marks[at + 1:]][person])
                             for marks, found in told.items() for other in range(crowd.most + 1)]
                    self.assertEqual(max(moves), 1 if pair in own_reads(rule, person) else 0)


class WrongArgumentsTest(RefusingCase):
    def setUp(self):
        self.rule = Rule(crowd_of(3, 2))

    def test_rule(self):
        for value in ODD + [self.rule.crowd, Page.filled(self.rule.crowd, 1)]:
            for call in (rank_reads, own_reads):
                self.refused(BadArgument, "value", value, call, value, 5)
                self.refused(BadArgument, "value", value, call, person=[], rule=value)
            for call in (is_safe, safe_people):
                self.refused(BadArgument, "value", value, call, value)
                self.refused(BadArgument, "value", value, call, rule=value)
            # A generator raises when its first value is asked for, not before.
            told = ways(value)
            self.refused(BadArgument, "value", value, next, told)

    def test_person(self):
        for value in ODD + ["d"]:
            for call in (rank_reads, own_reads):
                self.refused(NotThere, "word", value, call, self.rule, value)
                self.refused(NotThere, "word", value, call, person=value, rule=self.rule)

    def test_by_name(self):
        self.assertEqual(rank_reads(person="a", rule=self.rule), self.rule.reads)
        self.assertEqual(own_reads(person="a", rule=self.rule), [("a", "b"), ("a", "c")])
        self.assertEqual((is_safe(rule=self.rule), safe_people(rule=self.rule)), (False, []))
        self.assertEqual(len(list(ways(rule=self.rule))), 18)

    def test_told_lists_belong_to_the_caller(self):
        rank_reads(self.rule, "a").clear()
        own_reads(self.rule, "a").clear()
        safe_people(self.rule).append("a")
        self.assertEqual(rank_reads(self.rule, "a"), self.rule.crowd.pairs())
        self.assertEqual((len(own_reads(self.rule, "a")), safe_people(self.rule)), (2, []))


if __name__ == "__main__":
    unittest.main()
