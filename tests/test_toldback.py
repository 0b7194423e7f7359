"""Promises 1 (f) and 15: what told marks leave open, and full pages that go with told ranks."""

import itertools
import random
import unittest

from ownmarks.crowds import Crowd
from ownmarks.errors import BadArgument, NotThere
from ownmarks.pages import Page
from ownmarks.rules import Rule
from ownmarks.scores import Ranker, ranks
from ownmarks.swings import values
from ownmarks.toldback import can_rank, can_score, goes_with, lots_of_ranks, page_for
from tests.helping import (GATHERED, ODD, Alike, RefusingCase, all_pages, as_tuple, crowd_of, odd_without, plain_gathered, plain_ranks,
                           plain_scores, plain_values, some_page, some_rule)


def some_marks(crowd, chance, share):
    """Told marks by lot, about one of so many pairs left out (all of them, if it is 1; none, if it is 0)."""
    kept = [pair for pair in crowd.pairs() if share == 0 or chance.randrange(share) > 0]
    chance.shuffle(kept)
    return {pair: chance.randrange(crowd.most + 1) for pair in kept}


def has_marks(page, marks):
    return all(page[pair] == mark for pair, mark in marks.items())


def all_told_ranks(rule):
    """All told ranks: of each list all, in each order, or none."""
    parts = []
    for members in rule.lists:
        orders = itertools.permutations(range(1, len(members) + 1))
        parts.append([{}] + [dict(zip(members, order)) for order in orders])
    for lot in itertools.product(*parts):
        yield {person: rank for told in lot for person, rank in told.items()}


def small_cases(seed, sizes):
    """Rules by lot with told marks: none, some, or all of them."""
    chance = random.Random(seed)
    for people, most, many in sizes:
        for at in range(many):
            rule = some_rule(crowd_of(people, most), chance)
            yield rule, some_marks(rule.crowd, chance, [1, 0, 2, 3, 3, 2][at % 6])


SMALL = [(1, 2, 2), (2, 3, 12), (3, 1, 36), (3, 2, 18), (4, 1, 9)]


class SmallTest(unittest.TestCase):
    """Against all full pages with the told marks."""

    def check(self, rule, marks):
        found = [page for page in all_pages(rule.crowd) if has_marks(page, marks)]
        worths = [plain_scores(rule, page) for page in found]
        told = [plain_ranks(rule, page) for page in found]
        for person in rule.crowd:
            scores = sorted({worth[person] for worth in worths}) if rule.readers(person) else []
            self.assertEqual(can_score(rule, person, marks), [as_tuple(worth) for worth in scores])
            self.assertEqual(can_rank(rule, person, marks), sorted({one[person] for one in told}))
        lots = sorted({tuple(one.values()) for one in told})
        self.assertEqual([tuple(one.values()) for one in lots_of_ranks(rule, marks)], lots)
        for one in lots_of_ranks(rule, marks):
            self.assertIs(type(one), dict)
            self.assertEqual(list(one), rule.crowd.people)
        for wanted in all_told_ranks(rule):
            page = page_for(rule, wanted, marks)
            there = any(all(one[person] == rank for person, rank in wanted.items()) for one in told)
            self.assertEqual(page is not None, there)
            if there:
                self.assertTrue(page.is_full and page.crowd == rule.crowd and has_marks(page, marks))
                self.assertEqual({person: plain_ranks(rule, page)[person] for person in wanted}, wanted)
                self.assertIs(goes_with(rule, wanted, marks, page), True)
                self.assertEqual(page_for(rule, wanted, marks), page)

    def test_by_lot(self):
        for rule, marks in small_cases(91, SMALL):
            self.check(rule, marks)

    def test_each_gather(self):
        chance = random.Random(92)
        for gather, trim in GATHERED:
            for lists in (None, [["a", "c"], ["b"]]):
                if trim == 0:
                    rule = Rule(crowd_of(3, 2), gather=gather, lists=lists)
                    for share in (1, 0, 3, 2):
                        self.check(rule, some_marks(rule.crowd, chance, share))
        self.check(Rule(crowd_of(4, 1), gather="trim", trim=1), some_marks(crowd_of(4, 1), chance, 4))


class OrdinaryTest(unittest.TestCase):
    def test_can_score(self):
        rule = Rule(crowd_of(3, 2), gather="mean")
        self.assertEqual(can_score(rule, "a", {}), [(0, 1), (1, 2), (1, 1), (3, 2), (2, 1)])
        self.assertEqual(can_score(rule, "a", {("b", "a"): 1, ("a", "b"): 0}), [(1, 2), (1, 1), (3, 2)])
        self.assertEqual(can_score(rule, "a", {("b", "a"): 1, ("c", "a"): 2}), [(3, 2)])
        self.assertEqual(can_score(rule.changed(gather="least"), "a", {("b", "a"): 1}), [(0, 1), (1, 1)])
        self.assertEqual(can_score(rule.changed(gather="greatest"), "a", {("b", "a"): 1}), [(1, 1), (2, 1)])
        self.assertEqual(can_score(Rule(crowd_of(4, 3), gather="median"), "a", {("b", "a"): 1, ("c", "a"): 2}), [(1, 1), (2, 1)])
        trimmed = Rule(crowd_of(5, 3), gather="trim", trim=1)
        self.assertEqual(can_score(trimmed, "a", {("b", "a"): 0, ("c", "a"): 0, ("d", "a"): 3}), [(0, 1), (1, 2), (1, 1), (3, 2)])

    def test_marks_that_are_not_read(self):
        rule = Rule(crowd_of(3, 2), reads=[("b", "a"), ("a", "b")], lists=[["a", "b"], ["c"]])
        self.assertEqual(can_score(rule, "a", {("c", "a"): 2}), [(0, 1), (1, 1), (2, 1)])
        self.assertEqual(can_score(rule, "c", {}), [])
        self.assertEqual(can_score(rule, "c", {("a", "c"): 2}), [])
        self.assertEqual(can_rank(rule, "c", {("a", "c"): 2}), [1])
        self.assertEqual(page_for(rule, {"c": 1}, {("a", "c"): 2})["a", "c"], 2)

    def test_can_rank(self):
        rule = Rule(crowd_of(3, 2))
        self.assertEqual(can_rank(rule, "b", {}), [1, 2, 3])
        self.assertEqual(can_rank(rule, "b", {("c", "a"): 2, ("b", "a"): 2}), [2, 3])
        self.assertEqual(can_rank(rule, "a", {("c", "a"): 2, ("b", "a"): 2}), [1])
        full = {pair: 1 for pair in rule.crowd.pairs()}
        self.assertEqual([can_rank(rule, person, full) for person in "abc"], [[1], [2], [3]])

    def test_page_for(self):
        rule = Rule(crowd_of(3, 1), lists=[["a", "b"], ["c"]])
        page = page_for(rule, {"b": 1, "a": 2}, {("c", "b"): 0})
        self.assertEqual((ranks(rule, page), page["c", "b"], page.is_full), ({"a": 2, "b": 1, "c": 1}, 0, True))
        self.assertIs(page_for(rule, {"b": 1, "a": 2}, {("c", "b"): 0, ("a", "b"): 0}), None)
        self.assertIs(page_for(rule, {"b": 1, "a": 2}, {("b", "a"): 1, ("c", "b"): 0}), None)
        marks = {("a", "b"): 0, ("b", "a"): 1}
        page = page_for(rule, {}, marks)
        self.assertTrue(page.is_full and has_marks(page, marks))
        self.assertEqual(page_for(rule, {"c": 1}, {}).crowd, rule.crowd)

    def test_ties(self):
        # With all scores equal, the ranks are in the order of the crowd; nobody can be ahead of an earlier one.
        rule = Rule(crowd_of(3, 1), gather="greatest")
        marks = {("a", "b"): 1, ("b", "c"): 1, ("c", "a"): 1}
        self.assertEqual(list(lots_of_ranks(rule, marks)), [{"a": 1, "b": 2, "c": 3}])
        self.assertIs(page_for(rule, {"a": 2, "b": 1, "c": 3}, marks), None)

    def test_lots_of_ranks(self):
        rule = Rule(crowd_of(3, 1), lists=[["a", "c"], ["b"]])
        self.assertEqual(list(lots_of_ranks(rule, {})), [{"a": 1, "b": 1, "c": 2}, {"a": 2, "b": 1, "c": 1}])
        self.assertEqual(list(lots_of_ranks(rule, {("b", "a"): 1, ("c", "a"): 1})), [{"a": 1, "b": 1, "c": 2}])
        self.assertEqual(list(lots_of_ranks(Rule(Crowd(["a"], 1)), {})), [{"a": 1}])

    def test_all_orders_of_eight_people(self):
        rule = Rule(crowd_of(8, 2))
        told = [tuple(one.values()) for one in lots_of_ranks(rule, {})]
        self.assertEqual(told, list(itertools.permutations(range(1, 9))))


class GreatTest(unittest.TestCase):
    """Rules of four to eight people with greater marks."""

    def rules(self, seed, many):
        chance = random.Random(seed)
        for gather in GATHERED:
            for people in (4, 5, 6, 7, 8):
                for _ in range(many):
                    rule = some_rule(crowd_of(people, chance.choice([2, 3, 5, 10])), chance, gathers=[gather] if people > 6 else None)
                    yield rule, chance

    def plain_can_score(self, rule, person, marks):
        """All scores with the told marks, by all lots of the marks that are not told."""
        readers = rule.readers(person)
        told = [marks[reader, person] for reader in readers if (reader, person) in marks]
        lots = itertools.combinations_with_replacement(range(rule.crowd.most + 1), len(readers) - len(told))
        return sorted({plain_gathered(rule.gather, rule.trim, told + list(lot)) for lot in lots}) if readers else []

    def test_can_score(self):
        for rule, chance in self.rules(93, 1):
            for share in (0, 2, 4):
                marks = some_marks(rule.crowd, chance, share)
                for person in rule.crowd.people[::2]:
                    told = [as_tuple(worth) for worth in self.plain_can_score(rule, person, marks)]
                    self.assertEqual(can_score(rule, person, marks), told)
        rule = Rule(crowd_of(8, 10), gather="median")
        self.assertEqual(can_score(rule, "d", {}), [as_tuple(worth) for worth in plain_values(rule, "d")])
        self.assertEqual(can_score(rule, "d", {}), values(rule, "d"))

    def test_can_rank(self):
        for rule, chance in self.rules(94, 1):
            for share in (2, 3, 6):
                marks = some_marks(rule.crowd, chance, share)
                worths = {person: self.plain_can_score(rule, person, marks) for person in rule.crowd}
                for person in rule.crowd.people[::3]:
                    self.assertEqual(can_rank(rule, person, marks), self.plain_can_rank(rule, person, worths))

    def plain_can_rank(self, rule, person, worths):
        """As scores of unlike people hang on unlike pairs, by each own score and how many others can be ahead."""
        members = [member for member in rule.list_of(person) if member != person]
        if not members:
            return [1]
        told = set()
        for own in worths[person]:
            ways = []
            for member in members:
                earlier = rule.crowd.place(member) < rule.crowd.place(person)
                ways.append({worth > own or worth == own and earlier for worth in worths[member]})
            told |= {1 + sum(lot) for lot in itertools.product(*ways)}
        return sorted(told)

    def test_page_for_the_ranks_of_a_page(self):
        for rule, chance in self.rules(95, 2):
            page = some_page(rule.crowd, chance, 0)
            found = plain_ranks(rule, page)
            for share in (1, 2, 3, 5, 0):
                kept = some_marks(rule.crowd, chance, share)
                marks = {pair: page[pair] for pair in kept}
                wanted = {person: rank for person, rank in found.items() if share != 3 or person in rule.lists[0]}
                told = page_for(rule, wanted, marks)
                self.assertTrue(told.is_full and has_marks(told, marks))
                self.assertEqual({person: plain_ranks(rule, told)[person] for person in wanted}, wanted)
                self.assertIs(goes_with(rule, wanted, marks, told), True)
                self.assertIs(goes_with(rule, wanted, marks, page), True)

    def test_page_for_and_lots_of_ranks_agree(self):
        chance = random.Random(96)
        for at in range(40):
            rule = some_rule(crowd_of(chance.choice([4, 5, 5, 6]), chance.choice([1, 2, 4])), chance)
            marks = some_marks(rule.crowd, chance, 5)
            lots = [tuple(one.values()) for one in lots_of_ranks(rule, marks)]
            self.assertEqual(lots, sorted(set(lots)))
            there = set(lots)
            for wanted in all_told_ranks(rule):
                if len(wanted) == len(rule.crowd):
                    row = tuple(wanted[person] for person in rule.crowd)
                    self.assertEqual(page_for(rule, wanted, marks) is not None, row in there)
            for person, column in zip(rule.crowd, zip(*lots)):
                self.assertEqual(can_rank(rule, person, marks), sorted(set(column)))

    def test_against_pages_by_lot(self):
        for rule, chance in self.rules(97, 1):
            marks = some_marks(rule.crowd, chance, 4)
            ranker = Ranker(rule)
            spans = {person: can_rank(rule, person, marks) for person in rule.crowd}
            for _ in range(10):
                page = Page(rule.crowd, {**some_page(rule.crowd, chance, 0).marks, **marks})
                for person, rank in ranker(page).items():
                    self.assertIn(rank, spans[person])


class GoesWithTest(unittest.TestCase):
    def setUp(self):
        self.rule = Rule(crowd_of(3, 2), lists=[["a", "b"], ["c"]])
        self.page = Page.filled(self.rule.crowd, 1)

    def test_ordinary(self):
        wanted, other = {"a": 1, "b": 2}, {"b": 1, "a": 2}
        for told, marks, goes in [(wanted, {}, True), (other, {}, False), ({}, {}, True), ({**wanted, "c": 1}, {("a", "b"): 1}, True),
                                  (wanted, {("a", "c"): 2}, False), ({}, {("a", "c"): 2}, False), ({"c": 1}, self.page.marks, True)]:
            self.assertIs(goes_with(self.rule, told, marks, self.page), goes)
            self.assertIs(goes_with(value=self.page, marks=marks, rule=self.rule, ranks=told), goes)

    def test_any_value(self):
        pages = [Page.filled(crowd_of(3, 3), 1), Page.filled(crowd_of(2, 2), 1), Page.filled(Crowd(["b", "a", "c"], 2), 1),
                 self.page.with_mark(("a", "c"), None), Page.filled(self.rule.crowd, None)]
        for value in ODD + pages + [self.page.marks, (self.page,), self.rule, Alike()]:
            self.assertIs(goes_with(self.rule, {}, {}, value), False)
            self.assertIs(goes_with(self.rule, {"c": 1}, {("a", "b"): 1}, value), False)

    def test_by_lot(self):
        chance = random.Random(98)
        for rule, marks in small_cases(99, [(2, 2, 12), (3, 2, 24), (4, 3, 12)]):
            for _ in range(5):
                page = some_page(rule.crowd, chance, 0)
                if chance.randrange(3):
                    page = Page(rule.crowd, {**page.marks, **marks})
                found = plain_ranks(rule, page)
                for wanted in itertools.islice(all_told_ranks(rule), 30):
                    goes = has_marks(page, marks) and all(found[person] == rank for person, rank in wanted.items())
                    self.assertIs(goes_with(rule, wanted, marks, page), goes)


class WrongArgumentsTest(RefusingCase):
    def setUp(self):
        self.crowd = crowd_of(3, 2)
        self.rule = Rule(self.crowd, lists=[["a", "c"], ["b"]])
        self.page = Page.filled(self.crowd, 1)

    def first_lot(self, *given, **named):
        return next(lots_of_ranks(*given, **named))

    def test_rule(self):
        turned = [self.rule.changed(turn="centred"), self.rule.changed(turn="placed", gather="mean")]
        for value in ODD + [self.crowd, self.page] + turned:
            for call in (can_score, can_rank):
                self.refused(BadArgument, "value", value, call, value, "z", None)
                self.refused(BadArgument, "value", value, call, marks={}, person="a", rule=value)
            self.refused(BadArgument, "value", value, page_for, value, None, None)
            self.refused(BadArgument, "value", value, page_for, marks={}, ranks={}, rule=value)
            self.refused(BadArgument, "value", value, goes_with, value, None, None, None)
            self.refused(BadArgument, "value", value, self.first_lot, value, None)
            self.refused(BadArgument, "value", value, self.first_lot, marks={}, rule=value)

    def test_person(self):
        for value in ODD + ["d"]:
            for call in (can_score, can_rank):
                self.refused(NotThere, "word", value, call, self.rule, value, None)
                self.refused(NotThere, "word", value, call, marks={}, person=value, rule=self.rule)

    def test_marks(self):
        told = [{("a", "a"): 1}, {("a", "d"): 1}, {"ab": 1}, {("a", "b"): 3}, {("a", "b"): True}, {("a", "b"): None}, {("a", "b"): -1},
                {("a", "b"): 1.0}, {("a", "b", "c"): 1}, {("a",): 1}, {("a", "b"): 1, "c": 1}, [(("a", "b"), 1)], {None: None},
                {("a", "b"): Alike()}, {Alike(): 1}, {("a", "b"): [1]}, {("a", "b"): "1"}, self.page, Page, set()]
        for value in odd_without({}) + told:
            for call in (can_score, can_rank):
                self.refused(BadArgument, "value", value, call, self.rule, "a", value)
                self.refused(BadArgument, "value", value, call, marks=value, person="a", rule=self.rule)
            self.refused(BadArgument, "value", value, page_for, self.rule, {}, value)
            self.refused(BadArgument, "value", value, page_for, marks=value, ranks={"b": 1}, rule=self.rule)
            self.refused(BadArgument, "value", value, goes_with, self.rule, {}, value, self.page)
            self.refused(BadArgument, "value", value, goes_with, self.rule, {}, value, None)
            self.refused(BadArgument, "value", value, self.first_lot, self.rule, value)

    def test_ranks(self):
        told = [{"a": 1}, {"c": 2}, {"a": 1, "c": 1}, {"a": 2, "c": 2}, {"a": 1, "c": 3}, {"a": 0, "c": 1}, {"a": 1, "c": 2, "b": 2},
                {"a": True, "c": 2}, {"a": 1.0, "c": 2}, {"a": 1, "c": None}, {"b": True}, {"b": 0}, {"b": 2}, {"d": 1}, {"b": 1, "d": 1},
                {"b": "1"}, {None: 1}, {("b",): 1}, [("b", 1)], {"b": Alike()}, {Alike(): 1}, {"b": [1]}, {"b": -1}, set(), "b"]
        for value in odd_without({}) + told:
            self.refused(BadArgument, "value", value, page_for, self.rule, value, None)
            self.refused(BadArgument, "value", value, page_for, marks={}, ranks=value, rule=self.rule)
            self.refused(BadArgument, "value", value, goes_with, self.rule, value, None, self.page)
            self.refused(BadArgument, "value", value, goes_with, self.rule, value, {}, None)

    def test_generator_raises_at_its_first_value(self):
        for given in [(None, {}), (self.rule, None)]:
            told = lots_of_ranks(*given)
            with self.assertRaises(BadArgument):
                next(told)

    def test_by_name(self):
        self.assertEqual(can_score(marks={}, rule=self.rule, person="a"), can_score(self.rule, "a", {}))
        self.assertEqual(can_rank(marks={}, rule=self.rule, person="a"), [1, 2])
        self.assertEqual(page_for(marks={}, rule=self.rule, ranks={"b": 1}), page_for(self.rule, {"b": 1}, {}))
        self.assertEqual(len(list(lots_of_ranks(marks={}, rule=self.rule))), 2)

    def test_told_and_given_values_may_be_changed(self):
        marks, wanted = {("a", "c"): 2}, {"a": 1, "c": 2}
        page = page_for(self.rule, wanted, marks)
        can_score(self.rule, "a", marks).clear()
        can_rank(self.rule, "a", marks).clear()
        goes_with(self.rule, wanted, marks, page)
        self.assertEqual((marks, wanted), ({("a", "c"): 2}, {"a": 1, "c": 2}))
        told = lots_of_ranks(self.rule, marks)
        next(told).clear()
        marks.clear()
        wanted.clear()
        self.assertEqual(next(told), {"a": 2, "b": 1, "c": 1})
        self.assertEqual(page["a", "c"], 2)


if __name__ == "__main__":
    unittest.main()
