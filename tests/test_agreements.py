"""Promises 1 (d) and 17: rings of lists, people who agree, and ring papers."""

import itertools
import random
import unittest

from ownmarks.agreements import agreement, arrows, bars, fewest, hardest, is_agreement, ring_paper
from ownmarks.crowds import Crowd
from ownmarks.errors import BadArgument, BadNumber
from ownmarks.pages import Page
from ownmarks.rules import Rule
from tests.helping import (GATHERED, ODD, Alike, RefusingCase, all_pages, crowd_of, great_rules, odd_without, plain_ranks, small_rules,
                           some_page, some_rule)

OF_RULE = [arrows, fewest, agreement]
NO_PAPER_NUMBERS = odd_without() + [0, 9, -1, 1.0, "1", (1,), 10 ** 30, True]


def plain_arrows(rule):
    """All arrows by the words of promise 17."""
    told = []
    for (start, first), (aim, second) in itertools.product(enumerate(rule.lists), enumerate(rule.lists)):
        if len(second) >= 2 and any(reader in first for member in second for reader in rule.readers(member)):
            told.append((start, aim))
    return told


def plain_rings(rule):
    """All rings of unlike lists, by going through all rows of lists."""
    found = set(plain_arrows(rule))
    many = len(rule.lists)
    rings = [row for size in range(1, many + 1) for row in itertools.permutations(range(many), size)]
    return [row for row in rings if all((start, aim) in found for start, aim in zip(row, row[1:] + row[:1]))]


def plain_fewest(rule):
    """The fewest people of a lot that gains, by all full pages."""
    pages = [(page.marks, plain_ranks(rule, page)) for page in all_pages(rule.crowd)]
    for size in range(1, len(rule.crowd) + 1):
        for people in itertools.combinations(rule.crowd.people, size):
            found = {}
            for marks, told in pages:
                rest = tuple(mark for pair, mark in marks.items() if pair[0] not in people)
                found.setdefault(rest, set()).add(tuple(told[person] for person in people))
            for rows in found.values():
                if any(all(one < more for one, more in zip(row, other)) for row in rows for other in rows):
                    return size
    return None


def plain_paper_is_right(rule, number, paper):
    """Whether a list of tuples (index, rows) is a ring paper, by the words of promise 17."""
    found = set(plain_arrows(rule))
    if [index for index, _ in paper] != list(range(len(rule.lists))):
        return False
    for index, rows in paper:
        if len(rows) != number or any(index in row or row != sorted(set(row)) for row in rows):
            return False
        for ahead, row in zip([[index]] + rows, rows):
            if not {aim for start, aim in found if start in ahead} <= set(row):
                return False
    return True


def rules_with_rings():
    """Rules by lot of six to eight people with the greatest mark 10, of each gather, with lists by lot."""
    chance = random.Random(171)
    for many in (6, 7, 8):
        for gather in GATHERED:
            if gather[1] < 3 or many > 6:
                yield some_rule(crowd_of(many, 10), chance, gathers=[gather])
        yield hardest(crowd_of(many, 10))


class RingsTest(unittest.TestCase):
    def test_ordinary(self):
        crowd = crowd_of(5, 2)
        rule = Rule(crowd, lists=[["e"], ["c", "d"], ["a", "b"]], reads=[("a", "c"), ("b", "d"), ("e", "a"), ("c", "b"), ("a", "e")])
        self.assertEqual(rule.lists, [["a", "b"], ["c", "d"], ["e"]])
        # Of the last list there is an arrow, to it there is none.
        self.assertEqual(arrows(rule), [(0, 1), (1, 0), (2, 0)])
        self.assertEqual(fewest(rule), 2)
        self.assertEqual(arrows(rule | rule.changed(reads=rule.reads + [("c", "d")])), [(0, 1), (1, 0), (1, 1), (2, 0)])
        self.assertEqual(fewest(rule.changed(reads=rule.reads + [("c", "d")])), 1)
        self.assertEqual(fewest(rule.changed(reads=[("e", "a"), ("e", "b"), ("a", "c"), ("a", "d"), ("c", "e")])), None)

    def test_alone(self):
        rule = Rule(Crowd(["a"], 1))
        self.assertEqual((arrows(rule), fewest(rule), agreement(rule)), ([], None, None))
        rule = Rule(crowd_of(3, 2), lists=[["a"], ["b"], ["c"]])
        self.assertEqual((arrows(rule), fewest(rule), agreement(rule)), ([], None, None))
        self.assertEqual(arrows(Rule(crowd_of(2, 2))), [(0, 0)])

    def check(self, rule):
        self.assertEqual(arrows(rule), plain_arrows(rule))
        self.assertEqual(fewest(rule), min([len(ring) for ring in plain_rings(rule)], default=None))
        if len(rule.crowd) > 1 and all(len(members) > 1 for members in rule.lists):
            self.assertLessEqual(fewest(rule), len(rule.crowd) // 2)

    def test_all_rings(self):
        for rule in small_rules(250, 172):
            self.check(rule)
        chance = random.Random(173)
        for _ in range(60):
            lists = [["a"], ["b", "c"], ["d"], ["e", "f"], ["g", "h"]]
            reads = [pair for pair in crowd_of(8, 1).pairs() if chance.randrange(6) == 0]
            reads = set(reads) | {("a", "b"), ("d", "c"), ("b", "e"), ("c", "f"), ("a", "g"), ("e", "h")}
            self.check(Rule(crowd_of(8, 1), reads=list(reads), lists=lists))

    def test_great(self):
        for rule in list(great_rules()) + list(rules_with_rings()):
            self.check(rule)


class AgreementTest(unittest.TestCase):
    def check(self, rule):
        told = agreement(rule)
        many = min([len(ring) for ring in plain_rings(rule)], default=None)
        if many is None:
            self.assertIs(told, None)
            return
        self.assertIs(type(told), tuple)
        people, page, other = told
        self.assertIs(type(people), list)
        self.assertEqual(people, [person for person in rule.crowd if person in people])
        self.assertEqual((len(people), len(set(people)), fewest(rule)), (many, many, many))
        self.assertTrue(page.is_full and other.is_full and page.crowd == other.crowd == rule.crowd)
        for pair in rule.crowd.pairs():
            if pair[0] not in people:
                self.assertEqual(page[pair], other[pair])
        before, behind = plain_ranks(rule, page), plain_ranks(rule, other)
        for person in people:
            self.assertLess(before[person], behind[person])
        self.assertIs(is_agreement(rule, told), True)
        self.assertIs(is_agreement(rule, (people, other, page)), False)
        again = agreement(rule)
        self.assertEqual((people, page, other), again)

    def test_against_all_full_pages(self):
        chance = random.Random(174)
        for many, most, rules in [(1, 2, 1), (2, 1, 6), (2, 3, 6), (3, 1, 30), (3, 2, 14), (4, 1, 8)]:
            for _ in range(rules):
                rule = some_rule(crowd_of(many, most), chance)
                self.assertEqual(fewest(rule), plain_fewest(rule))
                self.check(rule)

    def test_two_lists_against_all_full_pages(self):
        crowd = crowd_of(4, 1)
        for lists, reads, many in [
                ([["a", "b"], ["c", "d"]], [("a", "c"), ("a", "d"), ("c", "a"), ("d", "b")], 2),
                ([["a", "d"], ["b", "c"]], [("a", "b"), ("b", "d"), ("d", "c"), ("c", "a")], 2),
                ([["a", "b"], ["c", "d"]], [("a", "c"), ("a", "d"), ("b", "a"), ("d", "b")], 1),
                ([["a", "b"], ["c"], ["d"]], [("c", "a"), ("d", "b"), ("a", "c"), ("a", "d")], None)]:
            for gather in ("sum", "mean", "median", "least", "greatest"):
                rule = Rule(crowd, lists=lists, reads=reads, gather=gather)
                self.assertEqual((fewest(rule), plain_fewest(rule)), (many, many))
                self.check(rule)

    def test_each_gather(self):
        for gather, trim in GATHERED:
            crowd = crowd_of(8, 1)
            self.check(Rule(crowd, gather=gather, trim=trim))
            self.check(Rule(crowd, gather=gather, trim=trim, lists=[["a", "b", "d", "e", "f", "g", "h"], ["c"]]))
        # With a trim of 1, three readers each of the other list.
        lists = [["a", "b", "c"], ["d", "e", "f"]]
        reads = [(one, other) for one in "abc" for other in "def"] + [(other, one) for one in "abc" for other in "def"]
        for most in (1, 2, 10):
            rule = Rule(crowd_of(6, most), gather="trim", trim=1, lists=lists, reads=reads)
            self.assertEqual(fewest(rule), 2)
            self.check(rule)

    def test_markers_who_mark_the_one_that_gains_alone(self):
        # Each one is marked by the one who gains by it, and no other member is.
        crowd = crowd_of(4, 1)
        reads = [("a", "c"), ("c", "a"), ("b", "d"), ("d", "b")]
        for gather in ("sum", "mean", "median", "least", "greatest"):
            self.check(Rule(crowd, lists=[["a", "b"], ["c", "d"]], reads=reads, gather=gather))
            self.check(Rule(crowd, lists=[["b", "c"], ["a", "d"]], reads=[("a", "b"), ("a", "c"), ("b", "a"), ("c", "d")], gather=gather))

    def test_small_and_great(self):
        for rule in small_rules(200, 175):
            self.check(rule)
        for rule in list(great_rules()) + list(rules_with_rings()):
            self.check(rule)


class IsAgreementTest(unittest.TestCase):
    def setUp(self):
        self.rule = Rule(crowd_of(4, 2), lists=[["a", "b"], ["c", "d"]], reads=[("a", "c"), ("a", "d"), ("c", "a"), ("d", "b")])
        self.good = agreement(self.rule)

    def test_other_authors(self):
        crowd = self.rule.crowd
        # The two of the fewest, and all four in any order with a row more that moves nobody.
        page = Page.filled(crowd, 0).with_mark(("a", "c"), 0).with_mark(("c", "a"), 0)
        other = page.with_mark(("a", "c"), 1).with_mark(("d", "b"), 1)
        self.assertIs(is_agreement(self.rule, (["a"], page, other)), False)
        self.assertIs(is_agreement(self.rule, (["d", "a"], page, other)), False)
        better = page.with_mark(("a", "d"), 1).with_mark(("d", "b"), 0)
        worse = page.with_mark(("a", "d"), 0).with_mark(("d", "b"), 1)
        for people, told in [(["a", "d"], True), (["d", "a"], True), (["a"], False), (["d"], False), (["a", "d", "b"], False),
                             (["a", "c", "d"], False), (["a", "d", "a"], False), ([], False)]:
            self.assertIs(is_agreement(self.rule, (people, better, worse)), told)
            self.assertIs(is_agreement(value=(people, better, worse), rule=self.rule), told)
        self.assertIs(is_agreement(self.rule, (["a", "d"], worse, better)), False)
        self.assertIs(is_agreement(self.rule, (["a", "d"], better, worse.with_mark(("b", "c"), 2))), False)
        self.assertIs(is_agreement(self.rule, (["a", "d"], better.with_mark(("a", "b"), 2), worse)), True)

    def test_somebody_without_a_better_rank(self):
        chance = random.Random(176)
        for rule in small_rules(60, 177):
            for _ in range(10):
                page = other = some_page(rule.crowd, chance, 0)
                people = chance.sample(rule.crowd.people, chance.randint(1, len(rule.crowd)))
                for person in people:
                    other = other.with_row(person, some_page(rule.crowd, chance, 0).row(person))
                before, behind = plain_ranks(rule, page), plain_ranks(rule, other)
                told = all(before[person] < behind[person] for person in people)
                self.assertIs(is_agreement(rule, (people, page, other)), told)

    def test_any_value(self):
        people, page, other = self.good
        wrong = ODD + [list(self.good), (people, page), (people, page, other, other), (tuple(people), page, other), ({}, page, other),
                       (people + ["z"], page, other), (people + people, page, other), ("ac", page, other), (["a", None], page, other),
                       (people, page, None), (people, None, other), (people, page.marks, other), (people, page, page),
                       (people, page.with_mark(("b", "a"), None), other.with_mark(("b", "a"), None)),
                       (people, page, other.with_mark((people[0], "b" if people[0] != "b" else "d"), None)),
                       (people, Page(crowd_of(4, 3), page.marks), Page(crowd_of(4, 3), other.marks)),
                       (people, Page.filled(crowd_of(3, 2), 1), other)]
        for value in ODD:
            wrong += [(value, page, other), (people, value, other), (people, page, value), ([value], page, other)]
        for value in wrong:
            self.assertIs(is_agreement(self.rule, value), False, value)
        self.assertIs(is_agreement(self.rule, self.good), True)


class RingPaperTest(unittest.TestCase):
    def check(self, rule):
        rings = plain_rings(rule)
        for number in range(1, 9):
            paper = ring_paper(rule, number)
            self.assertEqual(paper is None, any(len(ring) <= number for ring in rings))
            if paper is not None:
                self.assertTrue(plain_paper_is_right(rule, number, paper))
                self.assertIs(bars(rule, number, paper), True)
                for other in range(1, 9):
                    self.assertIs(bars(rule, other, paper), other == number)
                self.assertEqual(ring_paper(rule, number), paper)

    def test_ordinary(self):
        rule = Rule(crowd_of(4, 2), lists=[["a", "b"], ["c", "d"]], reads=[("a", "c"), ("a", "d"), ("c", "a"), ("d", "b")])
        paper = ring_paper(rule, 1)
        self.assertTrue(plain_paper_is_right(rule, 1, paper))
        self.assertIs(bars(rule, 1, [(0, [[1]]), (1, [[0]])]), True)
        self.assertIs(ring_paper(rule, 2), None)
        self.assertEqual(ring_paper(Rule(Crowd(["a"], 1)), 8), [(0, [[]] * 8)])

    def test_small(self):
        for rule in small_rules(150, 178):
            self.check(rule)

    def test_great(self):
        for rule in list(great_rules()) + list(rules_with_rings()):
            self.check(rule)

    def changed_papers(self, rule, paper, chance):
        """Papers that are unlike in one place, right ones and wrong ones."""
        many = len(rule.lists)
        for _ in range(12):
            told = [(index, [list(row) for row in rows]) for index, rows in paper]
            at = chance.randrange(many)
            index, rows = told[at]
            row = chance.choice(rows)
            kind = chance.randrange(6)
            if kind == 0:
                row.append(chance.randrange(many + 1))
            elif kind == 1:
                row[:] = sorted(set(row) | {chance.randrange(many)})
            elif kind == 2 and row:
                row.remove(chance.choice(row))
            elif kind == 3:
                row[:] = [one for one in range(many) if one != index]
            elif kind == 4:
                del told[at]
            else:
                told[at:at] = [told[chance.randrange(many)]]
            yield told

    def test_other_authors(self):
        chance = random.Random(179)
        found = {True: 0, False: 0}
        rules = list(small_rules(120, 180)) + list(rules_with_rings())
        for rule in rules:
            for number in (1, 2, 3):
                paper = ring_paper(rule, number)
                if paper is None:
                    continue
                for told in self.changed_papers(rule, paper, chance):
                    right = plain_paper_is_right(rule, number, told) and all(one in range(len(rule.lists)) for _, rows in told
                                                                              for row in rows for one in row)
                    found[right] += 1
                    self.assertIs(bars(rule, number, told), right)
        self.assertGreater(min(found.values()), 100)

    def test_any_value(self):
        # Three lists in a row: from the first to the second, from the second to the third.
        rule = Rule(crowd_of(6, 1), lists=[["a", "b"], ["c", "d"], ["e"], ["f"]], reads=[("e", "a"), ("e", "b"), ("a", "c"), ("b", "d"), ("c", "f")])
        good = ring_paper(rule, 2)
        self.assertEqual(good, [(0, [[1], []]), (1, [[], []]), (2, [[0], [1]]), (3, [[], []])])
        for more in [[(0, [[1], [2]]), *good[1:]], [*good[:2], (2, [[0, 3], [0, 1]]), good[3]], [*good[:3], (3, [[], [0, 1, 2]])],
                     [(0, [[1, 3], [3]]), (1, [[3], [3]]), (2, [[0, 1], [1, 3]]), (3, [[2], [0, 1]])]]:
            self.assertIs(bars(rule, 2, more), True)
        wrong = ODD + [tuple(good), good[:3], good[1:], good + good[:1], good[::-1], [good[1], good[0], *good[2:]], dict(good), good + [None],
                       [list(row) for row in good], [(index, tuple(rows)) for index, rows in good], [(index,) for index, _ in good],
                       [(index, rows, rows) for index, rows in good], [(index, rows[:1]) for index, rows in good],
                       [(index, rows + [[]]) for index, rows in good], [(index, [tuple(row) for row in rows]) for index, rows in good],
                       [(index, [[], []]) for index, rows in good], [(index, [[0, 1, 2, 3], [0, 1, 2, 3]]) for index, rows in good]]
        for rows in [[[True], []], [[1.0], []], [[1, 1], []], [[2, 1], []], [[1, 4], []], [[-1, 1], []], [[0, 1], []], [[1], [0]], [[], []],
                     [["1"], []], [[1, None], []], [[1], None], [None, []], [[1], {}], [{1: True}, []], [[[1]], []], [[Alike()], []], "ab"]:
            wrong.append([(0, rows), *good[1:]])
        for index in (True, False, 0.0, None, "0", 1, -1, Alike()):
            wrong.append([(index, good[0][1]), *good[1:]])
        wrong += [[good[0], (True, [[], []]), *good[2:]], [good[0], (1.0, [[], []]), *good[2:]]]
        for value in ODD:
            wrong += [[value, *good[1:]], [(0, value), *good[1:]], [(0, [value, []]), *good[1:]]]
        for value in wrong:
            self.assertIs(bars(rule, 2, value), False, value)
        self.assertIs(bars(paper=good, number=2, rule=rule), True)


class HardestTest(RefusingCase):
    def test_all_crowds(self):
        for many in range(2, 9):
            for most in (1, 4, 10):
                crowd = Crowd(list("hbcdefga")[:many], most)
                rule = hardest(crowd)
                self.assertEqual((rule.crowd, rule.turn, rule.gather, rule.trim, rule.prizes), (crowd, "plain", "sum", 0, 0))
                self.assertTrue(all(len(members) > 1 for members in rule.lists))
                self.assertEqual(fewest(rule), many // 2)
                self.assertEqual(min(len(ring) for ring in plain_rings(rule)), many // 2)
                self.assertEqual(hardest(crowd), rule)

    def test_one_person(self):
        for most in (1, 10):
            self.assertIs(hardest(Crowd(["a"], most)), None)
        self.assertIs(hardest(crowd=Crowd(["a"], 1)), None)

    def test_example(self):
        told = [fewest(hardest(Crowd(["a", "b", "c", "d", "e"][:many], 1))) for many in [2, 3, 4, 5]]
        self.assertEqual(told, [1, 1, 2, 2])

    def test_refused(self):
        for value in ODD + [Rule(crowd_of(2, 1)), Page.filled(crowd_of(2, 1), 0)]:
            self.refused(BadArgument, "value", value, hardest, value)
            self.refused(BadArgument, "value", value, hardest, crowd=value)


class WrongArgumentsTest(RefusingCase):
    def setUp(self):
        self.crowd = crowd_of(3, 2)
        self.rule = Rule(self.crowd)

    def test_rule(self):
        turned = [self.rule.changed(turn=turn, gather=gather) for turn in ("centred", "placed") for gather in ("sum", "mean")]
        for value in ODD + [self.crowd, Page.filled(self.crowd, 1)] + turned:
            for call in OF_RULE:
                self.refused(BadArgument, "value", value, call, value)
                self.refused(BadArgument, "value", value, call, rule=value)
            self.refused(BadArgument, "value", value, is_agreement, value, None)
            self.refused(BadArgument, "value", value, is_agreement, value=None, rule=value)
            self.refused(BadArgument, "value", value, ring_paper, value, 0)
            self.refused(BadArgument, "value", value, ring_paper, number=0, rule=value)
            self.refused(BadArgument, "value", value, bars, value, 0, None)
            self.refused(BadArgument, "value", value, bars, paper=[], number=9, rule=value)

    def test_number(self):
        for value in NO_PAPER_NUMBERS:
            self.refused(BadNumber, "number", value, ring_paper, self.rule, value)
            self.refused(BadNumber, "number", value, ring_paper, number=value, rule=self.rule)
            self.refused(BadNumber, "number", value, bars, self.rule, value, None)
            self.refused(BadNumber, "number", value, bars, paper=[(0, [])], rule=self.rule, number=value)

    def test_by_name(self):
        for call in OF_RULE:
            self.assertEqual(call(rule=self.rule), call(self.rule))
        rule = Rule(self.crowd, lists=[["a"], ["b"], ["c"]])
        self.assertEqual(ring_paper(number=3, rule=rule), ring_paper(rule, 3))

    def test_told_lists_belong_to_the_caller(self):
        rule = Rule(self.crowd, lists=[["a"], ["b"], ["c"]])
        paper = ring_paper(rule, 2)
        paper[0][1][0].append(1)
        paper.clear()
        arrows(self.rule).clear()
        agreement(self.rule)[0].clear()
        self.assertEqual((len(ring_paper(rule, 2)), arrows(self.rule), len(agreement(self.rule)[0])), (3, [(0, 0)], 1))
        self.assertIs(bars(rule, 2, ring_paper(rule, 2)), True)


if __name__ == "__main__":
    unittest.main()
