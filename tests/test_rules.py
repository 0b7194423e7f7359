"""Promise 5: rules and their parts."""

import itertools
import random
import unittest

from ownmarks.crowds import Crowd
from ownmarks.errors import BadArgument, BadRule, NotThere
from ownmarks.pages import Page
from ownmarks.rules import Rule
from tests.helping import GATHERED, GATHERS, ODD, TURNS, Alike, crowd_of, odd_without, some_rule

PARTS = ["turn", "reads", "gather", "trim", "lists", "prizes"]
FOUR = [("a", "c"), ("a", "d"), ("c", "a"), ("d", "b")]


class RuleToldTest(unittest.TestCase):
    def test_without_parts(self):
        crowd = crowd_of(3, 2)
        rule = Rule(crowd)
        self.assertEqual(rule.crowd, crowd)
        self.assertEqual((rule.turn, rule.gather, rule.trim, rule.prizes), ("plain", "sum", 0, 0))
        self.assertIs(type(rule.trim), int)
        self.assertEqual(rule.reads, crowd.pairs())
        self.assertEqual(rule.lists, [["a", "b", "c"]])
        self.assertEqual(rule, Rule(crowd, turn="plain", reads=None, gather="sum", trim=0, lists=None, prizes=0))

    def test_one_person(self):
        rule = Rule(Crowd(["a"], 1), prizes=8)
        self.assertEqual((rule.reads, rule.lists, len(rule), list(rule), rule.prizes), ([], [["a"]], 0, [], 8))
        self.assertEqual((rule.readers("a"), rule.list_of("a")), ([], ["a"]))

    def test_parts(self):
        crowd = Crowd(["d", "b", "a", "c"], 3)
        rule = Rule(crowd, turn="placed", reads=FOUR, gather="mean", lists=(("c", "d"), ["b"], ("a",)), prizes=2)
        self.assertEqual((rule.turn, rule.gather, rule.trim, rule.prizes), ("placed", "mean", 0, 2))
        self.assertEqual(rule.reads, [("d", "b"), ("a", "d"), ("a", "c"), ("c", "a")])
        self.assertEqual(rule.lists, [["d", "c"], ["b"], ["a"]])
        self.assertEqual(len(rule), 4)
        self.assertEqual(list(rule), rule.reads)

    def test_reads_and_lists_in_any_order(self):
        crowd = crowd_of(4, 2)
        rule = Rule(crowd, reads=FOUR, lists=[["a", "b"], ["c", "d"]])
        for reads in itertools.permutations(FOUR):
            self.assertEqual(Rule(crowd, reads=reads, lists=(("d", "c"), ["b", "a"])), rule)
            self.assertEqual(Rule(crowd, reads=list(reads), lists=[("a", "b"), ("d", "c")]).reads, FOUR)
        self.assertEqual(Rule(crowd, lists=(("d", "c"), ["b", "a"])).lists, [["a", "b"], ["c", "d"]])
        self.assertEqual(Rule(crowd, lists=[["d"], ["c", "a"], ["b"]]).lists, [["a", "c"], ["b"], ["d"]])

    def test_in(self):
        rule = Rule(crowd_of(4, 2), reads=FOUR, lists=[["a", "b"], ["c", "d"]])
        for pair in rule.crowd.pairs():
            self.assertIs(pair in rule, pair in FOUR)
            self.assertIs(list(pair) in rule, False)
        for value in ODD + [("a", Alike()), (Alike(), "c"), ("a", "z"), "ac"]:
            self.assertIs(value in rule, False)

    def test_readers_and_list_of(self):
        crowd = Crowd(["d", "b", "a", "c"], 3)
        rule = Rule(crowd, reads=FOUR + [("b", "c")], lists=[["c", "d"], ["b"], ["a"]])
        self.assertEqual([rule.readers(person) for person in "dbac"], [["a"], ["d"], ["c"], ["b", "a"]])
        self.assertEqual([rule.list_of(person) for person in "dbac"], [["d", "c"], ["b"], ["a"], ["d", "c"]])
        for value in ODD + ["e"]:
            for call in (rule.readers, rule.list_of):
                with self.assertRaises(NotThere) as caught:
                    call(value)
                self.assertIs(caught.exception.word, value)

    def test_lists_belong_to_the_caller(self):
        crowd = crowd_of(4, 2)
        reads, first, second = list(FOUR), ["a", "b"], ["c", "d"]
        lists = [first, second]
        rule = Rule(crowd, reads=reads, lists=lists)
        kept = Rule(crowd, reads=tuple(FOUR), lists=(("a", "b"), ("c", "d")))
        reads.clear()
        first.append("c")
        lists.pop()
        rule.reads.pop()
        rule.lists[0].append("c")
        rule.lists.clear()
        rule.readers("c").append("b")
        rule.list_of("a").clear()
        self.assertEqual(rule, kept)
        self.assertEqual((rule.reads, rule.lists, rule.readers("c")), (FOUR, [["a", "b"], ["c", "d"]], ["a"]))
        self.assertEqual(rule.list_of("a"), ["a", "b"])

    def test_every_gather_with_every_turn(self):
        crowd = crowd_of(8, 10)
        for turn, (gather, trim) in itertools.product(TURNS, GATHERED):
            if turn == "plain" or gather in ("sum", "mean"):
                rule = Rule(crowd, turn=turn, gather=gather, trim=trim)
                self.assertEqual((rule.turn, rule.gather, rule.trim), (turn, gather, trim))
        for prizes in range(9):
            self.assertEqual(Rule(crowd, prizes=prizes).prizes, prizes)

    def test_equal(self):
        crowd = crowd_of(4, 2)
        rule = Rule(crowd, reads=FOUR, lists=[["a", "b"], ["c", "d"]], prizes=1)
        self.assertTrue(rule == Rule(crowd_of(4, 2), reads=FOUR, lists=[["a", "b"], ["c", "d"]], prizes=1))
        others = [Rule(crowd_of(4, 3), reads=FOUR, lists=rule.lists, prizes=1), rule.changed(turn="centred"),
                  rule.changed(reads=FOUR + [("b", "a")]), rule.changed(gather="mean"), rule.changed(prizes=2),
                  rule.changed(lists=[["a", "b", "c", "d"]]), rule.changed(lists=[["a"], ["b"], ["c", "d"]]),
                  Rule(Crowd(["b", "a", "c", "d"], 2), reads=FOUR, lists=rule.lists, prizes=1)]
        for one, other in itertools.combinations([rule] + others, 2):
            self.assertFalse(one == other)
            self.assertTrue(one != other)
        trims = [Rule(crowd_of(8, 2), gather="trim", trim=trim) for trim in (1, 2, 3)]
        for one, other in itertools.combinations(trims, 2):
            self.assertFalse(one == other)
        for value in ODD + [crowd, FOUR]:
            self.assertIs(rule == value, False)


class RuleRefusedTest(unittest.TestCase):
    def setUp(self):
        self.crowd = crowd_of(4, 2)

    def refused(self, part, crowd=None, **named):
        with self.assertRaises(BadRule) as caught:
            Rule(crowd or self.crowd, **named)
        self.assertEqual(caught.exception.part, part)

    def test_crowd(self):
        for value in ODD + [Page.filled(self.crowd, 0), ["a", "b"]]:
            for named in [{}, {"turn": 5}, {"lists": [], "prizes": None}]:
                with self.assertRaises(BadArgument) as caught:
                    Rule(value, **named)
                self.assertIs(caught.exception.value, value)

    def test_other_arguments_by_name_alone(self):
        with self.assertRaises(TypeError):
            Rule(self.crowd, "plain")
        with self.assertRaises(TypeError):
            Rule(self.crowd).changed("plain")
        self.assertEqual(Rule(prizes=1, crowd=self.crowd), Rule(self.crowd, prizes=1))

    def test_turn(self):
        for value in ODD + ["Plain", "plain ", "sum", ["plain"], ("plain",)]:
            self.refused("turn", turn=value)

    def test_reads(self):
        good = [pair for pair in self.crowd.pairs()]
        for value in odd_without(None, [], ()):
            self.refused("reads", reads=value)
        for wrong in [("a", "a"), ("a", "z"), ["a", "b"], "ab", None, ("a", "b", "c"), ("a", Alike()), (["a"], "b"), ("a", "b")]:
            self.refused("reads", reads=good + [wrong])
            self.refused("reads", reads=tuple(good + [wrong]))
        self.refused("reads", reads=dict.fromkeys(good))
        self.refused("reads", reads=set(good))
        self.refused("reads", reads=iter(good))

    def test_gather(self):
        for value in ODD + ["Sum", "total", ["sum"], ("mean",), "plain"]:
            self.refused("gather", gather=value)
        for turn, gather in itertools.product(["centred", "placed"], ["median", "trim", "least", "greatest"]):
            self.refused("gather", turn=turn, gather=gather, trim=1 if gather == "trim" else 0)

    def test_trim(self):
        crowd = crowd_of(8, 2)
        for value in ODD + [0, 4, "1", (1,), 1.0]:
            self.refused("trim", crowd, gather="trim", trim=value)
        for gather in GATHERS:
            if gather != "trim":
                for value in ODD + [1, 2, 3, 4, 0.0]:
                    self.refused("trim", crowd, gather=gather, trim=value)
        self.refused("trim", crowd, gather="trim")

    def test_lists(self):
        for value in odd_without(None):
            self.refused("lists", lists=value)
        for value in [[[]], [["a", "b", "c", "d"], []], [["a", "b"], ["c"]], [["a", "b"], ["b", "c", "d"]], [["a", "b"], ["b", "c"]],
                      ["abcd"], [["a", "b", "c", "c"]],
                      [["a", "b", "c", "d", "a"]], [["a", "b", "c", "z"]], [["a", "b", "c", "d", "e"]], ["a", "b", "c", "d"],
                      [["a", "b", "c", Alike()]], [["a", "b"], {"c": 1, "d": 2}], [["a", "b"], {"c", "d"}], [[["a"], "b", "c", "d"]],
                      {("a", "b"): 1, ("c", "d"): 2}, [["a", "b", "c", None]], [["a", "b", "c", True]], [["a", "b", "c"], "d"]]:
            self.refused("lists", lists=value)

    def test_prizes(self):
        for value in ODD + [9, -1, "1", (1,), 1.0]:
            self.refused("prizes", prizes=value)

    def test_readers(self):
        self.refused("lists", reads=[])
        self.refused("lists", reads=())
        self.refused("lists", reads=[("a", "b"), ("b", "c"), ("c", "d")])
        self.refused("lists", reads=FOUR[1:], lists=[["a", "b"], ["c", "d"]])
        alone = [["a"], ["b"], ["c"], ["d"]]
        self.assertEqual(Rule(self.crowd, reads=[], lists=alone).reads, [])
        self.assertEqual(Rule(self.crowd, reads=[("a", "b")], lists=alone).readers("b"), ["a"])
        self.assertEqual(len(Rule(self.crowd, reads=FOUR, lists=[["a", "b"], ["c", "d"]])), 4)

    def test_readers_of_trim(self):
        for trim in (1, 2, 3):
            crowd = crowd_of(2 * trim + 2, 2)
            self.assertEqual(len(Rule(crowd, gather="trim", trim=trim)), len(crowd.pairs()))
            self.refused("lists", crowd, gather="trim", trim=trim, reads=crowd.pairs()[1:])
            self.refused("lists", crowd_of(2 * trim + 1, 2), gather="trim", trim=trim)
            alone = [[person] for person in crowd]
            self.assertEqual(len(Rule(crowd, gather="trim", trim=trim, reads=crowd.pairs()[:1], lists=alone)), 1)

    def test_first_wrong_part(self):
        wrong = {"turn": "x", "reads": 5, "gather": "x", "trim": 7, "lists": [["a"]], "prizes": 9}
        for many in range(1, 7):
            for parts in itertools.combinations(PARTS, many):
                self.refused(parts[0], **{part: wrong[part] for part in parts})
        self.refused("gather", turn="placed", gather="least", trim=9, lists=4, prizes=None)
        self.refused("trim", gather="mean", trim=1, reads=[], prizes=None)
        self.refused("trim", gather="mean", trim=1, lists=[], prizes=None)
        self.refused("lists", reads=[], prizes=None)


class JoiningTest(unittest.TestCase):
    def setUp(self):
        self.crowd = crowd_of(4, 2)
        self.lists = [["a", "b"], ["c", "d"]]
        self.one = Rule(self.crowd, reads=FOUR, lists=self.lists)
        self.other = Rule(self.crowd, reads=[("b", "a"), ("d", "b"), ("a", "d"), ("b", "c")], lists=self.lists)

    def test_or(self):
        both = self.one | self.other
        self.assertIs(type(both), Rule)
        self.assertEqual(both.reads, [("a", "c"), ("a", "d"), ("b", "a"), ("b", "c"), ("c", "a"), ("d", "b")])
        self.assertEqual(both, self.other | self.one)
        self.assertEqual(self.one | self.one, self.one)
        self.assertEqual(self.one.reads, FOUR)

    def test_and(self):
        wide = self.one | self.other
        self.assertEqual(wide & self.one, self.one)
        self.assertEqual(self.other & wide, self.other)
        more = self.one.changed(reads=FOUR + [("b", "c")])
        self.assertEqual((more & wide).reads, [("a", "c"), ("a", "d"), ("b", "c"), ("c", "a"), ("d", "b")])

    def test_and_without_readers(self):
        with self.assertRaises(BadRule) as caught:
            self.one & self.other
        self.assertEqual(caught.exception.part, "lists")
        crowd = crowd_of(5, 2)
        fewer = [Rule(crowd, gather="trim", trim=1, reads=crowd.pairs()[cut:cut + 19]) for cut in (0, 1)]
        self.assertEqual(len(fewer[0] & fewer[1]), 18)
        third = Rule(crowd, gather="trim", trim=1, reads=[pair for pair in crowd.pairs() if pair != ("c", "b")])
        with self.assertRaises(BadRule) as caught:
            third & fewer[1]
        self.assertEqual(caught.exception.part, "lists")

    def unlike(self):
        return [self.one.changed(turn="placed"), self.one.changed(gather="mean"), self.one.changed(prizes=1),
                self.one.changed(lists=[["a", "b", "c", "d"]]), Rule(crowd_of(4, 3), reads=FOUR, lists=self.lists),
                Rule(Crowd(["b", "a", "c", "d"], 2), reads=FOUR, lists=self.lists)]

    def test_others(self):
        for value in ODD + [self.crowd, FOUR] + self.unlike():
            for call in (lambda: self.one | value, lambda: self.one & value):
                with self.assertRaises(BadArgument) as caught:
                    call()
                self.assertIs(caught.exception.value, value)
        trims = [Rule(crowd_of(8, 2), gather="trim", trim=trim) for trim in (1, 2)]
        with self.assertRaises(BadArgument):
            trims[0] | trims[1]

    def test_is_within(self):
        wide = self.one | self.other
        self.assertIs(self.one.is_within(wide), True)
        self.assertIs(self.one.is_within(self.one), True)
        self.assertIs(self.one.is_within(other=wide), True)
        self.assertIs(wide.is_within(self.one), False)
        self.assertIs(self.one.is_within(self.other), False)
        for value in ODD + [self.crowd, FOUR] + self.unlike():
            self.assertIs(self.one.is_within(value), False)
        alone = Rule(self.crowd, reads=[], lists=[["a"], ["b"], ["c"], ["d"]])
        self.assertIs(alone.is_within(alone.changed(reads=[("a", "b")])), True)
        self.assertIs(alone.is_within(alone.changed(prizes=2)), False)

    def test_by_lot(self):
        chance = random.Random(5)
        for _ in range(60):
            one = some_rule(self.crowd, chance)
            wide = one | one.changed(reads=self.crowd.pairs())
            self.assertEqual(wide.reads, self.crowd.pairs())
            self.assertEqual(wide & one, one)
            self.assertTrue(one.is_within(wide))
            self.assertEqual(wide.is_within(one), one == wide)


class ChangedTest(unittest.TestCase):
    def setUp(self):
        self.crowd = crowd_of(5, 2)
        self.rule = Rule(self.crowd, gather="trim", trim=1, lists=[["a", "b"], ["c", "d", "e"]], prizes=1)

    def parts(self, rule):
        return {"turn": rule.turn, "reads": rule.reads, "gather": rule.gather, "trim": rule.trim, "lists": rule.lists,
                "prizes": rule.prizes}

    def test_just_the_given_parts(self):
        before = self.parts(self.rule)
        for change in [{}, {"reads": self.crowd.pairs()[1:]}, {"lists": [["a"], ["b"], ["c", "d"], ["e"]]}, {"prizes": 3},
                       {"prizes": 0}, {"gather": "least", "trim": 0}, {"turn": "placed", "gather": "sum", "trim": 0},
                       {"turn": "plain"}]:
            changed = self.rule.changed(**change)
            self.assertEqual(self.parts(changed), {**before, **change})
            self.assertEqual(changed.crowd, self.crowd)
            self.assertEqual(self.parts(self.rule), before)

    def test_none_is_as_it_is(self):
        few = self.rule.changed(reads=self.crowd.pairs()[1:])
        self.assertEqual(few.changed(turn=None, reads=None, gather=None, trim=None, lists=None, prizes=None), few)
        self.assertEqual(few.changed(prizes=2, reads=None).reads, few.reads)
        self.assertEqual(few.changed(prizes=2, lists=None).lists, few.lists)

    def refused(self, part, **change):
        with self.assertRaises(BadRule) as caught:
            self.rule.changed(**change)
        self.assertEqual(caught.exception.part, part)

    def test_refused_as_the_class_refuses(self):
        for part in PARTS:
            for value in [False, True, 9, "x", [["z"]], object(), {}, 2.0]:
                self.refused(part, **{part: value})
        self.refused("trim", gather="sum")
        self.refused("trim", trim=0)
        self.refused("gather", turn="centred", trim=0)
        self.refused("lists", reads=[])
        self.refused("lists", trim=2, prizes=9)
        self.refused("turn", prizes=9, lists=5, turn=5)


if __name__ == "__main__":
    unittest.main()
