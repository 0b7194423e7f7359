"""Promises 1 (f) and 21: rules that rank alike on all pages, told from others."""

import itertools
import random
import unittest
from math import comb

from ownmarks.alike import alike, parting, score_pairs
from ownmarks.crowds import Crowd
from ownmarks.errors import BadArgument, BadRule, NotThere, TooMany
from ownmarks.pages import Page
from ownmarks.rules import Rule
from tests.helping import (GATHERED, ODD, RefusingCase, all_pages, as_tuple, crowd_of, plain_gathered, plain_ranks, small_rules, some_lists,
                           some_rule)

OF_RULES = [alike, parting]


def plain_pairs(one, other, person):
    """The pairs of scores of somebody, by all marks for it."""
    markers = [marker for marker in one.crowd if marker != person]
    ones, others = one.readers(person), other.readers(person)
    if not ones or not others:
        return []
    told = set()
    for marks in itertools.product(range(one.crowd.most + 1), repeat=len(markers)):
        said = dict(zip(markers, marks))
        told.add((plain_gathered(one.gather, one.trim, [said[reader] for reader in ones]),
                  plain_gathered(other.gather, other.trim, [said[reader] for reader in others])))
    return [(as_tuple(score), as_tuple(more)) for score, more in sorted(told)]


def tried_alike(one, other):
    return all(plain_ranks(one, page) == plain_ranks(other, page) for page in all_pages(one.crowd))


def multisets_to_go_through(one, other, person):
    both = set(one.readers(person)) & set(other.readers(person))
    told = 1
    for readers in (both, set(one.readers(person)) - both, set(other.readers(person)) - both):
        told *= comb(len(readers) + one.crowd.most, one.crowd.most)
    return told


def two_rules(crowd, chance, lists=None, gathers=None):
    """Two rules by lot with the same crowd and the same lists."""
    while True:
        try:
            lists = lists or some_lists(crowd.people, chance)
            told = []
            for _ in range(2):
                gather, trim = chance.choice(gathers or GATHERED)
                few = chance.choice([1, 3, 5])
                reads = [pair for pair in crowd.pairs() if chance.randrange(6) < few]
                told.append(Rule(crowd, reads=reads, gather=gather, trim=trim, lists=lists))
            return told
        except BadRule:
            lists = None if chance.randrange(2) else lists


class ScorePairsTest(unittest.TestCase):
    def test_ordinary(self):
        one = Rule(crowd_of(3, 1))
        other = one.changed(gather="mean")
        self.assertEqual(score_pairs(one, other, "a"), [((0, 1), (0, 1)), ((1, 1), (1, 2)), ((2, 1), (1, 1))])
        other = one.changed(gather="least")
        self.assertEqual(score_pairs(one, other, "a"), [((0, 1), (0, 1)), ((1, 1), (0, 1)), ((2, 1), (1, 1))])
        other = one.changed(reads=[("b", "a"), ("a", "b"), ("a", "c")])
        self.assertEqual(score_pairs(other, one, "a"), [((0, 1), (0, 1)), ((0, 1), (1, 1)), ((1, 1), (1, 1)), ((1, 1), (2, 1))])
        self.assertEqual(score_pairs(person="a", other=one, one=other), score_pairs(other, one, "a"))
        self.assertIs(type(score_pairs(one, other, "a")[0]), tuple)

    def test_readers_of_one_rule_alone(self):
        crowd = crowd_of(3, 2)
        one = Rule(crowd, lists=[["a", "b"], ["c"]], reads=[("c", "a"), ("c", "b")])
        other = Rule(crowd, lists=[["a", "b"], ["c"]], reads=[("b", "a"), ("a", "b")])
        every = [((score, 1), (more, 1)) for score in range(3) for more in range(3)]
        self.assertEqual(score_pairs(one, other, "a"), every)
        self.assertEqual(score_pairs(one, other, "c"), [])
        third = one.changed(reads=one.reads + [("a", "c")])
        self.assertEqual((score_pairs(one, third, "c"), score_pairs(third, one, "c")), ([], []))
        self.assertEqual(score_pairs(third, third, "c"), [((mark, 1), (mark, 1)) for mark in range(3)])
        alone = Rule(Crowd(["a"], 1))
        self.assertEqual(score_pairs(alone, alone, "a"), [])

    def test_all_marks(self):
        chance = random.Random(211)
        for _ in range(120):
            crowd = crowd_of(chance.randint(1, 5), chance.randint(1, 4))
            one, other = two_rules(crowd, chance)
            for person in crowd:
                self.assertEqual(score_pairs(one, other, person), plain_pairs(one, other, person))

    def test_each_gather_with_each(self):
        for many, most, gathers in [(5, 2, GATHERED[:4] + GATHERED[6:]), (8, 1, GATHERED)]:
            crowd = crowd_of(many, most)
            lists = [["a"], list("bcdefgh"[:many - 1])]
            reads = [pair for pair in crowd.pairs() if pair not in [("a", "b"), ("b", "a"), ("c", "b")] or many == 8]
            fewer = [pair for pair in crowd.pairs() if pair not in [("d", "b"), ("c", "a")] or many == 8]
            for (gather, trim), (more, width) in itertools.product(gathers, gathers):
                one = Rule(crowd, gather=gather, trim=trim, lists=[[person] for person in crowd] if many < 8 else lists, reads=reads)
                other = Rule(crowd, gather=more, trim=width, lists=one.lists, reads=fewer)
                for person in "ab":
                    self.assertEqual(score_pairs(one, other, person), plain_pairs(one, other, person))

    def test_no_doubles_and_ascending(self):
        crowd = crowd_of(8, 10)
        one, other = Rule(crowd, gather="mean"), Rule(crowd, gather="trim", trim=2)
        told = score_pairs(one, other, "d")
        worths = [(score[0] * 1000 // score[1], more[0] * 1000 // more[1]) for score, more in told]
        self.assertEqual(worths, sorted(set(worths)))
        self.assertEqual(len(told), len(set(told)))
        self.assertEqual((told[0], told[-1]), (((0, 1), (0, 1)), ((10, 1), (10, 1))))


class AlikeTest(unittest.TestCase):
    def check(self, one, other, told):
        self.assertIs(alike(one, other), told)
        self.assertIs(alike(other, one), told)
        for first, second in [(one, other), (other, one)]:
            page = parting(first, second)
            self.assertEqual(page is None, told)
            if page is not None:
                self.assertTrue(page.is_full and page.crowd == one.crowd)
                self.assertNotEqual(plain_ranks(first, page), plain_ranks(second, page))
                self.assertEqual(parting(first, second), page)

    def test_ordinary(self):
        rule = Rule(crowd_of(3, 2))
        self.check(rule, rule, True)
        self.check(rule, Rule(crowd_of(3, 2), prizes=2), True)
        # With as many readers each, sums and means rank alike; so do all gathers of one mark.
        self.check(rule, rule.changed(gather="mean"), True)
        self.check(rule.changed(gather="median"), rule.changed(gather="mean"), True)
        self.check(rule, rule.changed(gather="least"), False)
        ring = rule.changed(reads=[("a", "b"), ("b", "c"), ("c", "a")])
        for gather in ("sum", "mean", "median", "least", "greatest"):
            self.check(ring, ring.changed(gather=gather), True)
        self.check(rule, ring, False)
        # With unlike numbers of readers they do not.
        more = rule.changed(reads=[("a", "b"), ("b", "c"), ("c", "a"), ("b", "a")])
        self.check(more, more.changed(gather="mean"), False)
        self.assertIs(alike(other=more, one=more), True)
        self.assertIs(parting(other=more, one=more), None)

    def test_pairs_that_do_not_matter(self):
        # What is said of somebody in a list of one moves no rank.
        crowd = crowd_of(4, 2)
        rule = Rule(crowd, lists=[["a", "b"], ["c"], ["d"]], reads=[("c", "a"), ("d", "b")])
        self.check(rule, rule.changed(reads=rule.reads + [("a", "c"), ("b", "d"), ("d", "c")]), True)
        self.check(rule, rule.changed(reads=rule.reads + [("d", "a")]), False)
        alone = Rule(crowd, lists=[["a"], ["b"], ["c"], ["d"]])
        self.check(alone, alone.changed(reads=[], gather="least"), True)
        self.check(Rule(Crowd(["a"], 1)), Rule(Crowd(["a"], 1), gather="greatest"), True)

    def test_all_full_pages(self):
        chance = random.Random(212)
        found = {True: 0, False: 0}
        for many, most, rules in [(1, 3, 2), (2, 1, 20), (2, 3, 20), (3, 1, 60), (3, 2, 30), (4, 1, 8)]:
            for _ in range(rules):
                one, other = two_rules(crowd_of(many, most), chance)
                told = tried_alike(one, other)
                found[told] += 1
                self.check(one, other, told)
        self.assertGreater(min(found.values()), 20)

    def test_near_each_other(self):
        # A pair more or less, or another gather, in rules of three people.
        chance = random.Random(213)
        found = {True: 0, False: 0}
        for _ in range(60):
            rule = some_rule(crowd_of(3, chance.randint(1, 2)), chance)
            try:
                gather = chance.choice([rule.gather, "sum", "mean", "median", "greatest"])
                gone = chance.choice(rule.crowd.pairs())
                other = rule.changed(reads=[pair for pair in rule.reads if pair != gone], gather=gather, trim=0 if gather != "trim" else 1)
            except BadRule:
                continue
            told = tried_alike(rule, other)
            found[told] += 1
            self.check(rule, other, told)
        self.assertGreater(min(found.values()), 5)

    def test_the_earlier_one_counts(self):
        # Equal scores by both rules, but for the one more that a later one needs.
        crowd = crowd_of(2, 1)
        one = Rule(crowd, gather="least")
        self.check(one, Rule(crowd, gather="greatest"), True)
        wide = crowd_of(4, 1)
        lists = [["a", "b"], ["c"], ["d"]]
        first = Rule(wide, lists=lists, reads=[("c", "a"), ("d", "a"), ("c", "b")], gather="least")
        second = Rule(wide, lists=lists, reads=[("c", "a"), ("d", "a"), ("c", "b")], gather="mean")
        self.check(first, second, tried_alike(first, second))
        self.check(first, first.changed(reads=first.reads + [("d", "b")]), False)

    def test_eight_people(self):
        crowd = crowd_of(8, 10)
        rule = Rule(crowd)
        self.assertEqual(multisets_to_go_through(rule, rule, "a"), 19448)
        self.check(rule, rule.changed(gather="mean"), True)
        for gather, trim in GATHERED[2:]:
            self.check(rule, rule.changed(gather=gather, trim=trim), False)
        self.check(rule.changed(gather="median"), rule.changed(gather="trim", trim=3), True)
        self.check(rule.changed(gather="median"), rule.changed(gather="trim", trim=2), False)
        lists = [["a", "b"], ["c", "d", "e"], ["f"], ["g", "h"]]
        ring = Rule(crowd, lists=lists, reads=[pair for pair in crowd.pairs() if ord(pair[1]) - ord(pair[0]) in (1, -7)])
        self.check(ring, ring.changed(gather="greatest"), True)
        self.check(ring, ring.changed(reads=[(marked, marker) for marker, marked in ring.reads]), False)


class RefusedTest(RefusingCase):
    def setUp(self):
        self.crowd = crowd_of(3, 2)
        self.rule = Rule(self.crowd, lists=[["a", "b"], ["c"]])

    def test_one(self):
        turned = [self.rule.changed(turn=turn, gather=gather) for turn in ("centred", "placed") for gather in ("sum", "mean")]
        for value in ODD + [self.crowd, Page.filled(self.crowd, 1)] + turned:
            for call in OF_RULES:
                self.refused(BadArgument, "value", value, call, value, value)
                self.refused(BadArgument, "value", value, call, value, None)
                self.refused(BadArgument, "value", value, call, other=self.rule, one=value)
            self.refused(BadArgument, "value", value, score_pairs, value, None, "z")
            self.refused(BadArgument, "value", value, score_pairs, person="a", other=self.rule, one=value)

    def test_other(self):
        others = [self.rule.changed(turn="centred"), self.rule.changed(turn="placed", gather="mean"), Rule(self.crowd),
                  self.rule.changed(lists=[["a"], ["b"], ["c"]]), Rule(crowd_of(3, 3), lists=[["a", "b"], ["c"]]),
                  Rule(Crowd(["b", "a", "c"], 2), lists=[["a", "b"], ["c"]]), Rule(crowd_of(4, 2), lists=[["a", "b"], ["c"], ["d"]])]
        for value in ODD + [self.crowd, Page.filled(self.crowd, 1)] + others:
            for call in OF_RULES:
                self.refused(BadArgument, "value", value, call, self.rule, value)
                self.refused(BadArgument, "value", value, call, other=value, one=self.rule)
            self.refused(BadArgument, "value", value, score_pairs, self.rule, value, "z")
            self.refused(BadArgument, "value", value, score_pairs, person="a", other=value, one=self.rule)

    def test_person(self):
        for value in ODD + ["d"]:
            self.refused(NotThere, "word", value, score_pairs, self.rule, self.rule, value)
            self.refused(NotThere, "word", value, score_pairs, person=value, other=self.rule, one=self.rule)

    def refused_many(self, call, *given):
        with self.assertRaises(TooMany) as caught:
            call(*given)
        self.assertEqual(caught.exception.most, 20000)

    def test_too_many(self):
        crowd = crowd_of(8, 10)
        rule = Rule(crowd)
        fewer = Rule(crowd, reads=[pair for pair in crowd.pairs() if pair != ("a", "b")])
        self.assertEqual(multisets_to_go_through(rule, fewer, "b"), 8008 * 11)
        for call in OF_RULES:
            self.refused_many(call, rule, fewer)
            self.refused_many(call, fewer, rule)
            self.refused(BadArgument, "value", self.rule, call, rule, self.rule)
        self.refused_many(score_pairs, rule, fewer, "b")
        self.refused(NotThere, "word", "z", score_pairs, rule, fewer, "z")
        # Of others there are fewer.
        self.assertEqual(len(score_pairs(rule, fewer, "a")), 71)

    def test_people_in_lists_of_one(self):
        crowd = crowd_of(8, 10)
        lists = [["a", "c", "d", "e", "f", "g", "h"], ["b"]]
        rule = Rule(crowd, lists=lists)
        fewer = Rule(crowd, lists=lists, reads=[pair for pair in crowd.pairs() if pair != ("a", "b")])
        self.assertEqual((alike(rule, fewer), parting(rule, fewer)), (True, None))
        self.refused_many(score_pairs, rule, fewer, "b")
        self.assertEqual(len(score_pairs(rule, fewer, "h")), 71)

    def test_just_as_many_as_may_be(self):
        chance = random.Random(214)
        found = {True: 0, False: 0}
        for _ in range(150):
            crowd = crowd_of(chance.choice([4, 5, 6, 7, 8]), chance.choice([3, 5, 7, 10]))
            one, other = two_rules(crowd, chance, gathers=[("sum", 0), ("mean", 0), ("least", 0)])
            many = {person: multisets_to_go_through(one, other, person) for person in crowd}
            for person in crowd:
                if many[person] > 20000:
                    self.refused_many(score_pairs, one, other, person)
            ranked = [person for members in one.lists if len(members) > 1 for person in members]
            too_many = any(many[person] > 20000 for person in ranked)
            found[too_many] += 1
            if too_many:
                self.refused_many(alike, one, other)
                self.refused_many(parting, one, other)
            elif sum(many.values()) < 20000:
                self.assertEqual(parting(one, other) is None, alike(one, other))
        self.assertGreater(min(found.values()), 20)

    def test_numbers_of_readers_near_the_greatest_that_are_let(self):
        for most, both, ones, others, many in [(10, "bcdefgh", "", "", 19448), (10, "", "cde", "fg", 18876), (10, "cde", "fg", "", 18876),
                                               (9, "cdefg", "h", "", 20020), (9, "cdefg", "", "h", 20020), (9, "c", "", "defgh", 20020),
                                               (9, "", "c", "defgh", 20020), (9, "cdefg", "", "", 2002), (7, "c", "d", "efgh", 21120),
                                               (7, "c", "d", "efg", 7680), (7, "cdef", "g", "h", 21120)]:
            crowd = crowd_of(8, most)
            lists = [["a", "b"]] + [[person] for person in "cdefgh"]
            one = Rule(crowd, lists=lists, reads=[(reader, "a") for reader in both + ones] + [("c", "b")])
            other = Rule(crowd, lists=lists, reads=[(reader, "a") for reader in both + others] + [("c", "b")], gather="least")
            self.assertEqual(multisets_to_go_through(one, other, "a"), many)
            if many > 20000:
                for call in OF_RULES:
                    self.refused_many(call, one, other)
                    self.refused_many(call, other, one)
                self.refused_many(score_pairs, other, one, "a")
            else:
                self.assertIs(alike(one, other), parting(one, other) is None)
                self.assertGreater(len(score_pairs(one, other, "a")), 0)

    def test_by_name_and_again(self):
        for rule in small_rules(30, 215):
            told = score_pairs(person=rule.crowd.people[0], other=rule, one=rule)
            again = score_pairs(rule, rule, rule.crowd.people[0])
            told.clear()
            self.assertEqual(score_pairs(rule, rule, rule.crowd.people[0]), again)


if __name__ == "__main__":
    unittest.main()
