"""Promises 1 (d) and 18: the marks that must go unread so that nobody's own marks matter."""

import itertools
import random
import unittest

from ownmarks.crowds import Crowd
from ownmarks.drops import cost, inner_pairs, least_lists, made_safe, moving_pages
from ownmarks.errors import BadArgument, BadPair, BadRule
from ownmarks.pages import Page
from ownmarks.rules import Rule
from ownmarks.swings import lifts
from ownmarks.web import is_safe
from tests.helping import (GATHERED, ODD, Alike, RefusingCase, crowd_of, great_rules, odd_without, plain_ranks, small_rules, some_lists,
                           some_rule)

NO_LISTS = odd_without(None) + [[[]], [["a", "b", "c"], []], [["a", "b"]], [["a", "b"], ["b", "c"]], [["a", "b", "c", "c"]], [["a", "b", "d"]],
                                [["a"], ["b"], "c"], ["abc"], "abc", {"a": 1, "b": 2, "c": 3}, [["a", "b"], ["c"], ["d"]],
                                [{"a": 1}, ["b", "c"]], [["a", "b", None]], [["a", "b", Alike()]], iter([["a", "b", "c"]])]


def plain_inner(rule, lists):
    return [pair for pair in rule.reads if any(set(pair) <= set(members) for members in lists)]


def all_partings(people):
    """All partings of some people into lists."""
    if not people:
        return [[]]
    told = []
    for parting in all_partings(people[:-1]):
        told.append(parting + [[people[-1]]])
        for at in range(len(parting)):
            told.append(parting[:at] + [parting[at] + [people[-1]]] + parting[at + 1:])
    return told


def plain_stands(rule, lists):
    inner = plain_inner(rule, lists)
    try:
        Rule(rule.crowd, reads=[pair for pair in rule.reads if pair not in inner], gather=rule.gather, trim=rule.trim, lists=lists)
    except BadRule:
        return False
    return True


def plain_least(rule, sizes):
    """What least_lists tells, by going through all partings with these sizes."""
    found = {}
    for lists in all_partings(rule.crowd.people):
        if sorted(len(members) for members in lists) == sorted(sizes) and plain_stands(rule, lists):
            lists = sorted([sorted(members, key=rule.crowd.place) for members in lists], key=lambda members: rule.crowd.place(members[0]))
            found.setdefault(len(plain_inner(rule, lists)), []).append(lists)
    if not found:
        return None
    least = found[min(found)]
    return (min(found), sorted(least, key=lambda lists: [[rule.crowd.place(person) for person in members] for members in lists]))


def all_sizes(many):
    """All ways to write a number as a sum, the greatest part first."""
    return sorted({tuple(sorted(map(len, parting), reverse=True)) for parting in all_partings(list("abcdefgh"[:many]))})


def greater_rules():
    """Rules by lot of six to eight people with the greatest mark 10, of each gather."""
    chance = random.Random(181)
    for many in (6, 7, 8):
        for gather in GATHERED:
            if gather[1] < 3 or many == 8:
                yield some_rule(crowd_of(many, 10), chance, gathers=[gather])


class InnerPairsTest(unittest.TestCase):
    def test_ordinary(self):
        rule = Rule(crowd_of(4, 2), lists=[["c", "a"], ["b", "d"]])
        self.assertEqual(inner_pairs(rule), [("a", "c"), ("b", "d"), ("c", "a"), ("d", "b")])
        rule = rule.changed(reads=[("a", "b"), ("b", "d"), ("c", "d"), ("b", "a"), ("b", "c")])
        self.assertEqual(inner_pairs(rule), [("b", "d")])
        self.assertEqual(inner_pairs(Rule(crowd_of(3, 1), lists=[["a"], ["b"], ["c"]])), [])
        self.assertEqual(inner_pairs(Rule(Crowd(["a"], 1))), [])

    def test_by_lot(self):
        for rule in list(small_rules(200, 182)) + list(greater_rules()) + list(great_rules()):
            self.assertEqual(inner_pairs(rule), plain_inner(rule, rule.lists))
            self.assertEqual(inner_pairs(rule) == [], is_safe(rule))


class MovingPagesTest(unittest.TestCase):
    def check(self, rule):
        for pair in inner_pairs(rule):
            told = moving_pages(rule, pair)
            self.assertIs(type(told), tuple)
            page, other = told
            self.assertTrue(page.is_full and other.is_full and page.crowd == other.crowd == rule.crowd)
            self.assertEqual([at for at in rule.crowd.pairs() if page[at] != other[at]], [pair])
            self.assertEqual(plain_ranks(rule, other)[pair[0]] - plain_ranks(rule, page)[pair[0]], 1)
            self.assertEqual(moving_pages(rule, pair), told)

    def test_small(self):
        for rule in small_rules(200, 183):
            self.check(rule)

    def test_each_gather(self):
        for gather, trim in GATHERED:
            for most in (1, 2, 10):
                self.check(Rule(crowd_of(8, most), gather=gather, trim=trim))

    def test_great(self):
        for rule in list(greater_rules()) + list(great_rules()):
            self.check(rule)


class MadeSafeTest(unittest.TestCase):
    def test_ordinary(self):
        rule = Rule(crowd_of(4, 2), lists=[["a", "b"], ["c", "d"]], prizes=2, gather="mean")
        told = made_safe(rule)
        self.assertEqual(told, rule.changed(reads=[pair for pair in rule.reads if pair not in [("a", "b"), ("b", "a"), ("c", "d"), ("d", "c")]]))
        self.assertEqual(made_safe(told), told)
        self.assertIs(made_safe(Rule(crowd_of(4, 2))), None)
        self.assertEqual(made_safe(Rule(Crowd(["a"], 1))), Rule(Crowd(["a"], 1)))
        alone = Rule(crowd_of(2, 1), lists=[["a"], ["b"]], reads=[])
        self.assertEqual(made_safe(alone), alone)

    def test_trim(self):
        lists = [["a", "b", "c"], ["d", "e", "f"]]
        rule = Rule(crowd_of(6, 1), lists=lists, gather="trim", trim=1)
        self.assertEqual(len(made_safe(rule)), 18)
        # Somebody keeps two readers only, not more than twice trim.
        self.assertIs(made_safe(rule.changed(reads=[pair for pair in rule.reads if pair != ("d", "a")])), None)

    def test_by_lot(self):
        found = {True: 0, False: 0}
        for rule in list(small_rules(300, 184)) + list(greater_rules()) + list(great_rules()):
            reads = rule.reads
            told = made_safe(rule)
            kept = [pair for pair in reads if pair not in plain_inner(rule, rule.lists)]
            stands = plain_stands(rule, rule.lists)
            found[stands] += 1
            self.assertEqual(told is None, not stands)
            self.assertEqual(rule.reads, reads)
            if stands:
                self.assertEqual(told, rule.changed(reads=kept))
                self.assertTrue(is_safe(told))
                self.assertEqual(set(lifts(told).values()), {0})
        self.assertGreater(min(found.values()), 40)


class CostTest(RefusingCase):
    def test_ordinary(self):
        rule = Rule(crowd_of(4, 2), reads=[("a", "b"), ("b", "c"), ("c", "d"), ("d", "a"), ("a", "c")])
        self.assertEqual(cost(rule, [["a", "b"], ["c", "d"]]), 2)
        self.assertEqual(cost(rule, (("d", "c"), ["b", "a"])), 2)
        self.assertEqual(cost(rule, [("d", "b"), ("a", "c")]), 1)
        self.assertEqual(cost(rule, [["a"], ["b"], ["c"], ["d"]]), 0)
        self.assertEqual(cost(rule, None), 5)
        self.assertEqual(cost(lists=[["a", "b", "c"], ["d"]], rule=rule), 3)

    def test_by_lot(self):
        chance = random.Random(185)
        for rule in list(small_rules(150, 186)) + list(great_rules()):
            lists = some_lists(rule.crowd.people, chance)
            for members in lists:
                chance.shuffle(members)
            chance.shuffle(lists)
            # Readers are not asked for, whatever trim is.
            self.assertEqual(cost(rule, lists), len(plain_inner(rule, lists)))
            self.assertEqual(cost(rule, tuple(tuple(members) for members in lists)), len(plain_inner(rule, lists)))
            self.assertEqual(cost(rule, None), len(rule))

    def test_refused(self):
        rule = Rule(crowd_of(3, 2))
        for value in NO_LISTS:
            with self.assertRaises(BadRule) as caught:
                cost(rule, value)
            self.assertEqual(caught.exception.part, "lists")
            with self.assertRaises(BadRule):
                cost(lists=value, rule=rule)


class LeastListsTest(RefusingCase):
    def test_ordinary(self):
        rule = Rule(crowd_of(4, 2))
        told = [[["a", "b"], ["c", "d"]], [["a", "c"], ["b", "d"]], [["a", "d"], ["b", "c"]]]
        self.assertEqual(least_lists(rule, [2, 2]), (4, told))
        self.assertIs(least_lists(rule, [4]), None)
        self.assertEqual(least_lists(rule, (1, 3)), (6, [[["a"], ["b", "c", "d"]], [["a", "b", "c"], ["d"]], [["a", "b", "d"], ["c"]],
                                                         [["a", "c", "d"], ["b"]]]))
        self.assertEqual(least_lists(rule, (1, 1, 1, 1)), (0, [[["a"], ["b"], ["c"], ["d"]]]))
        # The two lists of one ask for no readers.
        rule = rule.changed(reads=[pair for pair in rule.reads if pair not in [("d", "b"), ("b", "d"), ("a", "b")]])
        self.assertEqual(least_lists(rule, [1, 2, 1]), (0, [[["a"], ["b", "d"], ["c"]]]))

    def test_order(self):
        # Places count, not words.
        rule = Rule(Crowd(["z", "a", "m"], 1), reads=[("z", "a"), ("a", "m"), ("m", "z"), ("a", "z"), ("m", "a"), ("z", "m")])
        self.assertEqual(least_lists(rule, [2, 1]), (2, [[["z"], ["a", "m"]], [["z", "a"], ["m"]], [["z", "m"], ["a"]]]))

    def check(self, rule, sizes):
        told = least_lists(rule, sizes)
        self.assertEqual(told, plain_least(rule, sizes))
        self.assertEqual(least_lists(rule, tuple(sizes)), told)
        if told is not None:
            self.assertIs(type(told), tuple)
            self.assertEqual(cost(rule, told[1][0]), told[0])

    def test_all_partings(self):
        chance = random.Random(187)
        for many, rules in [(1, 2), (2, 6), (3, 10), (4, 12), (5, 10), (6, 8)]:
            for at in range(rules):
                crowd = Crowd(chance.sample(list("abcdefgh"), many), chance.randint(1, 10))
                rule = some_rule(crowd, chance)
                for sizes in all_sizes(many):
                    sizes = list(sizes)
                    chance.shuffle(sizes)
                    self.check(rule, sizes)

    def test_each_gather(self):
        for gather, trim in GATHERED:
            if trim < 3:
                rule = Rule(crowd_of(6, 10), gather=gather, trim=trim, lists=[[person] for person in "abcdef"])
                for sizes in all_sizes(6):
                    self.check(rule, sizes)

    def test_seven_and_eight_people(self):
        for rule in [rule for rule in greater_rules() if len(rule.crowd) > 6][::3]:
            for sizes in all_sizes(len(rule.crowd))[::4]:
                self.check(rule, sizes)

    def test_refused(self):
        rule = Rule(crowd_of(3, 2))
        wrong = ODD + [[], (), [3, 0], [0, 3], [1, 1], [2, 2], [4], [-1, 4], [True, 2], [2, True], [True, True, True], [1.0, 2], [3.0], ["3"],
                       [1, 2, None], [[3]], "21", {3: 1}, {1, 2}, 3, iter([3]), [1, 1, 1, 1], [Alike()], [10 ** 30]]
        for value in wrong:
            self.refused(BadArgument, "value", value, least_lists, rule, value)
            self.refused(BadArgument, "value", value, least_lists, sizes=value, rule=rule)


class WrongArgumentsTest(RefusingCase):
    def setUp(self):
        self.crowd = crowd_of(3, 2)
        self.rule = Rule(self.crowd, lists=[["a", "b"], ["c"]], reads=[("a", "b"), ("c", "a"), ("a", "c"), ("c", "b")])

    def test_rule(self):
        turned = [Rule(self.crowd, turn=turn, gather=gather) for turn in ("centred", "placed") for gather in ("sum", "mean")]
        for value in ODD + [self.crowd, Page.filled(self.crowd, 1)] + turned:
            for call in (inner_pairs, made_safe):
                self.refused(BadArgument, "value", value, call, value)
                self.refused(BadArgument, "value", value, call, rule=value)
            self.refused(BadArgument, "value", value, moving_pages, value, None)
            self.refused(BadArgument, "value", value, moving_pages, pair=("a", "b"), rule=value)
            self.refused(BadArgument, "value", value, cost, value, [])
            self.refused(BadArgument, "value", value, cost, lists=None, rule=value)
            self.refused(BadArgument, "value", value, least_lists, value, None)
            self.refused(BadArgument, "value", value, least_lists, sizes=[3], rule=value)

    def test_pair(self):
        good = ("a", "b")
        self.assertEqual(inner_pairs(self.rule), [good])
        for value in odd_without(good) + [("b", "a"), ("c", "a"), ("a", "c"), ("a", "a"), ["a", "b"], ("a", "b", "c"), (Alike(), "b"), "ab"]:
            if value != good or isinstance(value, Alike):
                self.refused(BadPair, "value", value, moving_pages, self.rule, value)
                self.refused(BadPair, "value", value, moving_pages, pair=value, rule=self.rule)

    def test_by_name(self):
        self.assertEqual(moving_pages(pair=("a", "b"), rule=self.rule), moving_pages(self.rule, ("a", "b")))
        self.assertEqual(inner_pairs(rule=self.rule), [("a", "b")])
        self.assertEqual(made_safe(rule=self.rule), self.rule.changed(reads=[("c", "a"), ("a", "c"), ("c", "b")]))
        self.assertEqual(least_lists(sizes=[1, 2], rule=self.rule), least_lists(self.rule, [2, 1]))

    def test_told_and_given_lists_belong_to_the_caller(self):
        sizes, lists = [2, 1], [["a", "b"], ["c"]]
        told = least_lists(self.rule, sizes)
        again = least_lists(self.rule, sizes)
        told[1][0][0].append("z")
        told[1].clear()
        inner_pairs(self.rule).clear()
        cost(self.rule, lists)
        self.assertEqual((sizes, lists), ([2, 1], [["a", "b"], ["c"]]))
        self.assertEqual(least_lists(self.rule, sizes), again)
        self.assertEqual(inner_pairs(self.rule), [("a", "b")])
        for one, other in itertools.combinations(again[1], 2):
            self.assertFalse(any(members is more for members in one for more in other))


if __name__ == "__main__":
    unittest.main()
