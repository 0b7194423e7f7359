"""Promise 16, joined rules: rules put together, and taken apart."""

import itertools
import random
import unittest

from ownmarks.crowds import Crowd
from ownmarks.errors import BadArgument
from ownmarks.joins import joined, only, parts_of
from ownmarks.pages import Page
from ownmarks.rules import Rule
from ownmarks.scores import ranks
from ownmarks.swings import lifts
from ownmarks.web import is_safe, safe_people
from tests.helping import GATHERED, ODD, TURNS, RefusingCase, crowd_of, odd_without, plain_ranks, some_page, some_rule

LATER = "stuvwxyz"


def later_crowd(many, most):
    return Crowd(list(LATER[:many]), most)


def two_rules(chance, most=None):
    """Two plain rules by lot that can be joined."""
    most = most or chance.randint(1, 10)
    gather = chance.choice(GATHERED[:5])
    many = chance.randint(1, 7)
    rule = some_rule(crowd_of(many, most), chance, gathers=[gather])
    other = some_rule(later_crowd(chance.randint(1, 8 - many), most), chance, gathers=[gather])
    return rule, other.changed(prizes=rule.prizes)


def plain_parts(rule):
    """The parts by growing each from one person."""
    told = []
    for person in rule.crowd:
        part = {person}
        while True:
            more = set(part)
            for members in rule.lists:
                if more & set(members):
                    more |= set(members)
            for pair in rule.reads:
                if more & set(pair):
                    more |= set(pair)
            if more == part:
                break
            part = more
        row = [one for one in rule.crowd if one in part]
        if row not in told:
            told.append(row)
    return told


class JoinedTest(unittest.TestCase):
    def test_ordinary(self):
        rule = Rule(Crowd(["b", "a"], 3), gather="mean", prizes=2)
        other = Rule(Crowd(["d", "c", "x"], 3), gather="mean", prizes=2, reads=[("d", "c"), ("c", "x")], lists=[["d"], ["c", "x"]])
        told = joined(rule, other)
        self.assertEqual(told.crowd, Crowd(["b", "a", "d", "c", "x"], 3))
        self.assertEqual(told.lists, [["b", "a"], ["d"], ["c", "x"]])
        self.assertEqual(told.reads, [("b", "a"), ("a", "b"), ("d", "c"), ("c", "x")])
        self.assertEqual((told.turn, told.gather, told.trim, told.prizes), ("plain", "mean", 0, 2))
        self.assertEqual(joined(other=other, rule=rule), told)
        self.assertEqual(joined(other, rule).crowd.people, ["d", "c", "x", "b", "a"])

    def test_what_is_told_of_both(self):
        chance = random.Random(111)
        for _ in range(120):
            rule, other = two_rules(chance)
            told = joined(rule, other)
            self.assertEqual(told.crowd, Crowd(rule.crowd.people + other.crowd.people, rule.crowd.most))
            self.assertEqual(set(told.reads), set(rule.reads) | set(other.reads))
            self.assertEqual(told.lists, rule.lists + other.lists)
            self.assertEqual((told.gather, told.trim, told.prizes), (rule.gather, rule.trim, rule.prizes))
            self.assertEqual(lifts(told), {**lifts(rule), **lifts(other)})
            self.assertEqual(safe_people(told), safe_people(rule) + safe_people(other))
            self.assertEqual(is_safe(told), is_safe(rule) and is_safe(other))
            page = some_page(told.crowd, chance, chance.choice([0, 4]))
            one = Page(rule.crowd, {pair: page[pair] for pair in rule.crowd.pairs()})
            two = Page(other.crowd, {pair: page[pair] for pair in other.crowd.pairs()})
            self.assertEqual(ranks(told, page), {**plain_ranks(rule, one), **plain_ranks(other, two)})

    def test_eight_people(self):
        for many in range(1, 8):
            told = joined(Rule(crowd_of(many, 10)), Rule(later_crowd(8 - many, 10)))
            self.assertEqual(len(told.crowd), 8)


class PartsTest(unittest.TestCase):
    def test_ordinary(self):
        crowd = crowd_of(5, 2)
        self.assertEqual(parts_of(Rule(crowd)), [["a", "b", "c", "d", "e"]])
        alone = Rule(crowd, reads=[], lists=[["a"], ["b"], ["c"], ["d"], ["e"]])
        self.assertEqual(parts_of(alone), [["a"], ["b"], ["c"], ["d"], ["e"]])
        self.assertEqual(parts_of(alone.changed(reads=[("e", "b"), ("c", "e")])), [["a"], ["b", "c", "e"], ["d"]])
        # Read pairs and lists together: e marks b, and d is in the list of e.
        rule = Rule(crowd, reads=[("e", "b"), ("d", "e"), ("e", "d")], lists=[["a"], ["b"], ["c"], ["e", "d"]])
        self.assertEqual(parts_of(rule), [["a"], ["b", "d", "e"], ["c"]])
        self.assertEqual(parts_of(rule=Rule(Crowd(["z"], 1))), [["z"]])

    def test_by_lot(self):
        chance = random.Random(112)
        for _ in range(200):
            crowd = crowd_of(chance.randint(1, 8), chance.randint(1, 3))
            reads = [pair for pair in crowd.pairs() if chance.randrange(7) == 0]
            rule = Rule(crowd, reads=reads, lists=[[person] for person in crowd])
            self.assertEqual(parts_of(rule), plain_parts(rule))
            rule = some_rule(crowd, chance, chance.choice(TURNS))
            self.assertEqual(parts_of(rule), plain_parts(rule))

    def test_of_joined_rules(self):
        chance = random.Random(113)
        for _ in range(60):
            rule, other = two_rules(chance)
            told = joined(rule, other)
            self.assertEqual(parts_of(told), plain_parts(told))
            self.assertEqual(parts_of(told), plain_parts(rule) + plain_parts(other))


class OnlyTest(unittest.TestCase):
    def test_ordinary(self):
        rule = Rule(crowd_of(5, 2), reads=[("e", "b"), ("d", "e"), ("e", "d"), ("a", "c")], lists=[["a"], ["b"], ["c"], ["e", "d"]],
                    gather="greatest", prizes=3)
        told = only(rule, ["e", "b", "d"])
        self.assertEqual(told, Rule(Crowd(["b", "d", "e"], 2), reads=[("d", "e"), ("e", "b"), ("e", "d")], lists=[["b"], ["d", "e"]],
                                    gather="greatest", prizes=3))
        self.assertEqual(only(people=("c", "a"), rule=rule).crowd.people, ["a", "c"])
        self.assertEqual(only(rule, ["e", "c", "d", "a", "b"]), rule)

    def test_joined_and_taken_apart(self):
        chance = random.Random(114)
        for _ in range(60):
            rule, other = two_rules(chance)
            told = joined(rule, other)
            for part in (rule, other):
                people = part.crowd.people
                chance.shuffle(people)
                self.assertEqual(only(told, people), part)
                self.assertEqual(only(told, tuple(people)), part)

    def test_all_lots_of_people(self):
        chance = random.Random(115)
        for turn in TURNS:
            for _ in range(25):
                crowd = crowd_of(chance.randint(1, 5), 2)
                reads = [pair for pair in crowd.pairs() if chance.randrange(4) == 0]
                rule = Rule(crowd, turn=turn, reads=reads, lists=[[person] for person in crowd], gather="mean", prizes=chance.randint(0, 8))
                parts = plain_parts(rule)
                for many in range(len(crowd) + 1):
                    for people in itertools.permutations(crowd.people, many):
                        whole = [part for part in parts if set(part) <= set(people)]
                        if not many or sum(len(part) for part in whole) != many:
                            with self.assertRaises(BadArgument) as caught:
                                only(rule, people)
                            self.assertIs(caught.exception.value, people)
                            continue
                        told = only(rule, list(people))
                        self.assertEqual(told.crowd, Crowd([person for person in crowd if person in people], 2))
                        self.assertEqual(told.reads, [pair for pair in rule.reads if set(pair) <= set(people)])
                        self.assertEqual((told.turn, told.gather, told.prizes), (turn, "mean", rule.prizes))
                        self.assertEqual(told.lists, [[person] for person in told.crowd])

    def test_rows_that_are_not_plain_and_trim(self):
        rule = Rule(crowd_of(3, 2), turn="centred", reads=[("a", "b"), ("b", "a")], lists=[["a", "b"], ["c"]])
        self.assertEqual(only(rule, ["a", "b"]), Rule(crowd_of(2, 2), turn="centred"))
        rule = Rule(crowd_of(4, 2), gather="trim", trim=1, lists=[["d"], ["a"], ["b"], ["c"]], reads=[("a", "b")])
        self.assertEqual((only(rule, ["b", "a"]).gather, only(rule, ["c"]).trim), ("trim", 1))


class WrongArgumentsTest(RefusingCase):
    def setUp(self):
        self.rule = Rule(crowd_of(3, 2), prizes=1)
        self.other = Rule(later_crowd(3, 2), prizes=1)

    def test_rule(self):
        turned = [self.rule.changed(turn="centred"), self.rule.changed(turn="placed", gather="mean")]
        for value in ODD + [self.rule.crowd, Page.filled(self.rule.crowd, 1)]:
            self.refused(BadArgument, "value", value, parts_of, value)
            self.refused(BadArgument, "value", value, parts_of, rule=value)
            self.refused(BadArgument, "value", value, only, value, None)
            self.refused(BadArgument, "value", value, only, people=["a"], rule=value)
        for value in ODD + [self.rule.crowd] + turned:
            self.refused(BadArgument, "value", value, joined, value, None)
            self.refused(BadArgument, "value", value, joined, other=self.other, rule=value)
        for rule in turned:
            self.assertEqual(parts_of(rule), [["a", "b", "c"]])
            self.assertEqual(only(rule, ["c", "b", "a"]), rule)

    def test_other(self):
        later = later_crowd(3, 2)
        others = [self.rule, Rule(Crowd(["x", "c"], 2), prizes=1), Rule(Crowd(["a"], 2), prizes=1), Rule(later_crowd(3, 3), prizes=1),
                  Rule(later, prizes=0), Rule(later, prizes=2), Rule(later, gather="mean", prizes=1), Rule(later, gather="least", prizes=1),
                  self.other.changed(turn="centred"), self.other.changed(turn="placed"), Rule(later_crowd(6, 2), prizes=1),
                  Rule(later_crowd(8, 2), prizes=1), Rule(later_crowd(5, 2), gather="trim", trim=1, prizes=1)]
        for value in ODD + [later, Page.filled(later, 1)] + others:
            self.refused(BadArgument, "value", value, joined, self.rule, value)
            self.refused(BadArgument, "value", value, joined, other=value, rule=self.rule)
        self.assertEqual(len(joined(self.rule, Rule(later_crowd(5, 2), prizes=1)).crowd), 8)

    def test_other_with_another_trim(self):
        lists = [[person] for person in "abc"]
        rule = Rule(crowd_of(3, 2), gather="trim", trim=1, lists=lists)
        for trim in (1, 2, 3):
            other = Rule(later_crowd(2, 2), gather="trim", trim=trim, lists=[["s"], ["t"]])
            if trim == 1:
                self.assertEqual(joined(rule, other).trim, 1)
            else:
                self.refused(BadArgument, "value", other, joined, rule, other)

    def test_people(self):
        rule = Rule(crowd_of(3, 2), reads=[("a", "b"), ("b", "a")], lists=[["a", "b"], ["c"]])
        people = [["a"], ["b", "c"], ["a", "b", "b"], ["c", "c"], ["a", "b", "d"], "ab", "c", {"c": 1}, {"c"}, [["c"]], ("c", None), iter(["c"]),
                  ["a", "b", "c", "c"], [], (), [True], ["a", "b", ""]]
        for value in odd_without(["a", "b"], ("a", "b", "c")) + people:
            self.refused(BadArgument, "value", value, only, rule, value)
            self.refused(BadArgument, "value", value, only, people=value, rule=rule)
        self.assertEqual(only(rule, ("c",)), Rule(Crowd(["c"], 2)))

    def test_told_and_given_values_may_be_changed(self):
        people = ["a", "b", "c"]
        only(self.rule, people)
        parts_of(self.rule)[0].clear()
        self.assertEqual((people, parts_of(self.rule)), (["a", "b", "c"], [["a", "b", "c"]]))
        told = joined(self.rule, self.other)
        told.lists.clear()
        self.assertEqual(len(told.lists), 2)


if __name__ == "__main__":
    unittest.main()
