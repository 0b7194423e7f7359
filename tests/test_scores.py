"""Promises 6 and 7: turned rows, scores, ranks and winners."""

import random
import unittest

from ownmarks.crowds import Crowd
from ownmarks.errors import BadArgument, NotThere
from ownmarks.pages import Page
from ownmarks.rules import Rule
from ownmarks.scores import Ranker, ranks, score, scores, turned_row, winners
from tests.helping import (GATHERED, ODD, TURNS, RefusingCase, as_tuple, crowd_of, plain_ranks, plain_scores, plain_turned, some_page,
                           some_rule)


def page_for(crowd, person, marks):
    """The page on which the others give somebody these marks, in their order; all other marks are missing."""
    others = [other for other in crowd if other != person]
    return Page(crowd, {**{pair: None for pair in crowd.pairs()}, **{(o, person): m for o, m in zip(others, marks)}})


class TurnedRowTest(unittest.TestCase):
    def turned(self, turn, marks, most=10):
        crowd = crowd_of(len(marks) + 1, most)
        rule = Rule(crowd, turn=turn)
        page = Page.filled(crowd, None).with_row("a", dict(zip("bcdefgh", marks)))
        told = turned_row(rule, page, "a")
        self.assertEqual(list(told), list("bcdefgh"[:len(marks)]))
        return list(told.values())

    def test_plain(self):
        self.assertEqual(self.turned("plain", [2, 0, 10]), [(2, 1), (0, 1), (10, 1)])
        self.assertEqual(self.turned("plain", [2, None, 0]), [(2, 1), None, (0, 1)])

    def test_centred(self):
        self.assertEqual(self.turned("centred", [2, 0, 2]), [(2, 3), (-4, 3), (2, 3)])
        self.assertEqual(self.turned("centred", [4, 0, 2]), [(2, 1), (-2, 1), (0, 1)])
        self.assertEqual(self.turned("centred", [4, None, 1]), [(3, 2), None, (-3, 2)])
        self.assertEqual(self.turned("centred", [None, 7, None]), [None, (0, 1), None])

    def test_placed(self):
        self.assertEqual(self.turned("placed", [2, 0, 2]), [(3, 2), (0, 1), (3, 2)])
        self.assertEqual(self.turned("placed", [5, 5, 5, 5]), [(3, 2)] * 4)
        self.assertEqual(self.turned("placed", [1, 3, 2]), [(0, 1), (2, 1), (1, 1)])
        self.assertEqual(self.turned("placed", [5, None, 5]), [(1, 2), None, (1, 2)])
        self.assertEqual(self.turned("placed", [None, 5, None]), [None, (0, 1), None])

    def test_nothing_given(self):
        for turn in TURNS:
            self.assertEqual(self.turned(turn, [None, None]), [None, None])
            self.assertEqual(turned_row(Rule(Crowd(["a"], 1), turn=turn), Page(Crowd(["a"], 1), {}), "a"), {})

    def test_whole_rows_are_turned(self):
        crowd = crowd_of(3, 4)
        rule = Rule(crowd, turn="centred", reads=[("a", "b")], lists=[["a"], ["b"], ["c"]])
        page = Page.filled(crowd, 1).with_row("a", {"b": 0, "c": 4})
        self.assertEqual(turned_row(rule, page, "a"), {"b": (-2, 1), "c": (2, 1)})
        self.assertEqual(score(rule, page, "b"), (-2, 1))

    def test_by_lot(self):
        chance = random.Random(1)
        for turn in TURNS:
            for _ in range(60):
                crowd = crowd_of(chance.randint(2, 8), chance.randint(1, 10))
                rule, page = Rule(crowd, turn=turn), some_page(crowd, chance, chance.choice([0, 2, 4]))
                for person in crowd:
                    told = {other: as_tuple(worth) for other, worth in plain_turned(turn, page.row(person)).items()}
                    self.assertEqual(turned_row(rule, page, person), told)


class ScoreTest(unittest.TestCase):
    def told(self, gather, trim, marks, most=10):
        crowd = crowd_of(8, most)
        page = page_for(crowd, "a", marks + [None] * (7 - len(marks)))
        rule = Rule(crowd, gather=gather, trim=trim)
        found = score(rule, page, "a")
        self.assertEqual(scores(rule, page)["a"], found)
        return found

    def test_each_gather(self):
        self.assertEqual(self.told("sum", 0, [1, 2, 4]), (7, 1))
        self.assertEqual(self.told("mean", 0, [1, 2, 4]), (7, 3))
        self.assertEqual(self.told("mean", 0, [1, 3]), (2, 1))
        self.assertEqual(self.told("median", 0, [9, 1, 4]), (4, 1))
        self.assertEqual(self.told("median", 0, [9, 1, 4, 7]), (11, 2))
        self.assertEqual(self.told("median", 0, [9, 1]), (5, 1))
        self.assertEqual(self.told("median", 0, [9]), (9, 1))
        self.assertEqual(self.told("least", 0, [9, 1, 4]), (1, 1))
        self.assertEqual(self.told("greatest", 0, [3, 9, 1, 4]), (9, 1))

    def test_trim(self):
        marks = [0, 1, 3, 5, 6, 9, 10]
        self.assertEqual(self.told("trim", 1, marks), (24, 5))
        self.assertEqual(self.told("trim", 2, marks), (14, 3))
        self.assertEqual(self.told("trim", 3, marks), (5, 1))
        # With just twice trim given, all of them count.
        self.assertEqual(self.told("trim", 1, [10, 1]), (11, 2))
        self.assertEqual(self.told("trim", 1, [10, 1, 2]), (2, 1))
        self.assertEqual(self.told("trim", 2, [10, 1, 2, 0]), (13, 4))
        self.assertEqual(self.told("trim", 2, [10, 1, 2, 0, 7]), (2, 1))
        self.assertEqual(self.told("trim", 3, [10, 1, 2, 0, 7, 7]), (9, 2))
        self.assertEqual(self.told("trim", 3, [10]), (10, 1))

    def test_nothing_given(self):
        for gather, trim in GATHERED:
            self.assertEqual(self.told(gather, trim, []), (0, 1))

    def test_without_readers(self):
        crowd = crowd_of(3, 2)
        rule = Rule(crowd, reads=[("a", "b")], lists=[["a"], ["b"], ["c"]])
        page = Page.filled(crowd, 2)
        self.assertEqual(scores(rule, page), {"a": None, "b": (2, 1), "c": None})
        self.assertIs(score(rule, page, "a"), None)
        self.assertEqual(score(rule, Page.filled(crowd, None), "b"), (0, 1))

    def test_trim_in_a_list_of_one(self):
        crowd = crowd_of(3, 10)
        rule = Rule(crowd, gather="trim", trim=1, lists=[["a"], ["b"], ["c"]], reads=[("b", "a"), ("c", "a"), ("a", "b")])
        page = page_for(crowd, "a", [3, 10])
        self.assertEqual(scores(rule, page), {"a": (13, 2), "b": (0, 1), "c": None})

    def test_turned(self):
        crowd = crowd_of(3, 10)
        page = Page(crowd, dict(zip(crowd.pairs(), [4, 1, None, 8, 2, 2])))
        self.assertEqual(scores(Rule(crowd, turn="centred"), page), {"a": (0, 1), "b": (3, 2), "c": (-3, 2)})
        self.assertEqual(scores(Rule(crowd, turn="centred", gather="mean"), page), {"a": (0, 1), "b": (3, 4), "c": (-3, 4)})
        self.assertEqual(scores(Rule(crowd, turn="placed"), page), {"a": (1, 2), "b": (3, 2), "c": (0, 1)})

    def test_by_lot(self):
        chance = random.Random(2)
        for turn in TURNS:
            for _ in range(150):
                crowd = crowd_of(chance.randint(1, 8), chance.randint(1, 10))
                rule, page = some_rule(crowd, chance, turn), some_page(crowd, chance, chance.choice([0, 2, 4]))
                told = {person: as_tuple(worth) for person, worth in plain_scores(rule, page).items()}
                self.assertEqual(scores(rule, page), told)
                self.assertEqual(list(scores(rule, page)), crowd.people)
                self.assertEqual({person: score(rule, page, person) for person in crowd}, told)


class RankTest(unittest.TestCase):
    def test_ties_go_to_the_earlier_one(self):
        crowd = Crowd(["c", "a", "b"], 2)
        self.assertEqual(ranks(Rule(crowd), Page.filled(crowd, 1)), {"c": 1, "a": 2, "b": 3})
        self.assertEqual(ranks(Rule(crowd), Page.filled(crowd, None)), {"c": 1, "a": 2, "b": 3})
        page = Page.filled(crowd, 1).with_mark(("a", "b"), 2)
        self.assertEqual(ranks(Rule(crowd), page), {"c": 2, "a": 3, "b": 1})

    def test_within_lists(self):
        crowd = crowd_of(5, 4)
        rule = Rule(crowd, lists=[["a", "d"], ["b", "e"], ["c"]], prizes=1)
        page = Page.filled(crowd, 1).with_mark(("a", "d"), 2).with_mark(("c", "b"), 0)
        self.assertEqual(ranks(rule, page), {"a": 2, "b": 2, "c": 1, "d": 1, "e": 1})
        self.assertEqual(list(ranks(rule, page)), crowd.people)
        self.assertEqual(winners(rule, page), ["c", "d", "e"])
        self.assertEqual(winners(rule.changed(prizes=0), page), [])
        self.assertEqual(winners(rule.changed(prizes=2), page), crowd.people)
        self.assertEqual(winners(rule.changed(prizes=8), page), crowd.people)

    def test_scores_are_compared_by_worth(self):
        crowd = crowd_of(4, 10)
        rule = Rule(crowd, gather="mean", lists=[["a", "b"], ["c", "d"]],
                    reads=[("b", "a"), ("c", "a"), ("a", "b"), ("c", "b"), ("d", "b"), ("a", "c"), ("a", "d")])
        page = Page.filled(crowd, 0).with_row("c", {"a": 9, "b": 10, "d": 0}).with_mark(("d", "b"), 4)
        self.assertEqual((score(rule, page, "a"), score(rule, page, "b")), ((9, 2), (14, 3)))
        self.assertEqual(ranks(rule, page), {"a": 2, "b": 1, "c": 1, "d": 2})

    def test_one_person(self):
        crowd = Crowd(["a"], 1)
        self.assertEqual(ranks(Rule(crowd), Page(crowd, {})), {"a": 1})
        self.assertEqual(winners(Rule(crowd, prizes=1), Page(crowd, {})), ["a"])

    def test_by_lot(self):
        chance = random.Random(3)
        for turn in TURNS:
            for _ in range(150):
                crowd = crowd_of(chance.randint(1, 8), chance.choice([1, 2, 3, 10]))
                rule, page = some_rule(crowd, chance, turn), some_page(crowd, chance, chance.choice([0, 2, 4]))
                told = ranks(rule, page)
                self.assertEqual(told, plain_ranks(rule, page))
                for members in rule.lists:
                    self.assertEqual(sorted(told[person] for person in members), list(range(1, len(members) + 1)))
                self.assertEqual(winners(rule, page), [person for person in crowd if told[person] <= rule.prizes])


class RankerTest(unittest.TestCase):
    def test_moved(self):
        crowd = crowd_of(3, 2)
        ranker = Ranker(Rule(crowd))
        page = Page.filled(crowd, 1)
        other = page.with_mark(("a", "c"), 2)
        self.assertEqual(ranker(page), {"a": 1, "b": 2, "c": 3})
        self.assertEqual(ranker(other), {"a": 2, "b": 3, "c": 1})
        self.assertEqual(ranker.moved(page, other), {"a": (1, 2), "b": (2, 3), "c": (3, 1)})
        self.assertEqual(ranker.moved(page, page), {})
        third = page.with_mark(("c", "b"), 2)
        self.assertEqual(ranker.moved(page, third), {"a": (1, 2), "b": (2, 1)})
        self.assertEqual(list(ranker.moved(other=page, page=third)), ["a", "b"])

    def test_by_lot(self):
        chance = random.Random(4)
        for _ in range(60):
            crowd = crowd_of(chance.randint(1, 6), 2)
            rule = some_rule(crowd, chance, chance.choice(TURNS))
            ranker, page, other = Ranker(rule=rule), some_page(crowd, chance, 5), some_page(crowd, chance, 0)
            before, behind = ranker(page=page), ranker(other)
            self.assertEqual((before, behind), (ranks(rule, page), ranks(rule, other)))
            moved = {person: (before[person], behind[person]) for person in crowd if before[person] != behind[person]}
            self.assertEqual(ranker.moved(page, other), moved)


class WrongArgumentsTest(RefusingCase):
    def setUp(self):
        self.crowd = crowd_of(3, 2)
        self.rule = Rule(self.crowd)
        self.page = Page.filled(self.crowd, 1)
        self.other_pages = [Page.filled(crowd_of(3, 3), 1), Page.filled(crowd_of(4, 2), 1), Page.filled(crowd_of(2, 2), 1),
                            Page.filled(Crowd(["b", "a", "c"], 2), 1), self.rule, self.crowd]

    def test_rule(self):
        for value in ODD + [self.page, self.crowd]:
            self.refused(BadArgument, "value", value, turned_row, value, 5, 6)
            self.refused(BadArgument, "value", value, score, person=3, page=4, rule=value)
            self.refused(BadArgument, "value", value, scores, value, self.page)
            self.refused(BadArgument, "value", value, ranks, page=None, rule=value)
            self.refused(BadArgument, "value", value, winners, value, 5)
            self.refused(BadArgument, "value", value, Ranker, value)

    def test_page(self):
        ranker = Ranker(self.rule)
        for value in ODD + self.other_pages:
            self.refused(BadArgument, "value", value, turned_row, self.rule, value, "z")
            self.refused(BadArgument, "value", value, score, person="z", page=value, rule=self.rule)
            self.refused(BadArgument, "value", value, scores, self.rule, value)
            self.refused(BadArgument, "value", value, ranks, self.rule, value)
            self.refused(BadArgument, "value", value, winners, page=value, rule=self.rule)
            self.refused(BadArgument, "value", value, ranker, value)
            self.refused(BadArgument, "value", value, ranker.moved, value, object())
            self.refused(BadArgument, "value", value, ranker.moved, self.page, value)
            self.refused(BadArgument, "value", value, ranker.moved, other=value, page=self.page)

    def test_person(self):
        for value in ODD + ["d"]:
            self.refused(NotThere, "word", value, turned_row, self.rule, self.page, value)
            self.refused(NotThere, "word", value, score, self.rule, self.page, value)
            self.refused(NotThere, "word", value, score, person=value, rule=self.rule, page=self.page)

    def test_an_equal_crowd_is_the_same(self):
        page = Page.filled(crowd_of(3, 2), 1)
        self.assertEqual(ranks(self.rule, page), {"a": 1, "b": 2, "c": 3})
        self.assertEqual(ranks(page=page, rule=self.rule), {"a": 1, "b": 2, "c": 3})

    def test_told_dicts_belong_to_the_caller(self):
        ranker = Ranker(self.rule)
        for told in (turned_row(self.rule, self.page, "a"), scores(self.rule, self.page), ranks(self.rule, self.page),
                     ranker(self.page), ranker.moved(self.page, self.page)):
            self.assertIs(type(told), dict)
            told.clear()
        self.assertEqual(ranker(self.page), {"a": 1, "b": 2, "c": 3})


if __name__ == "__main__":
    unittest.main()
