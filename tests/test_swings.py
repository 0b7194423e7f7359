"""Promises 1 (a), 1 (b), 9 and 10: how far own marks can move a rank, and lift papers."""

import itertools
import random
import unittest
from fractions import Fraction

from ownmarks.crowds import Crowd
from ownmarks.errors import BadArgument, BadNumber, NotThere
from ownmarks.pages import Page
from ownmarks.rules import Rule
from ownmarks.scores import Ranker
from ownmarks.swings import (bounds_lift, decided, is_moved, lift, lift_pages, lift_paper, lifts, reach, values)
from ownmarks.web import is_safe, own_reads, safe_people
from tests.helping import (GATHERED, ODD, Alike, RefusingCase, all_rows, as_tuple, crowd_of, great_rules, odd_without, plain_decided,
                           plain_gathered, plain_lift, plain_ranks, plain_values, small_rules, some_page, some_rule, tried_lifts)

NO_PLACES = odd_without(11, 10 ** 50) + [-1, -10 ** 30, "1", (1,), 1.0, 0.0]


def is_right_paper(rule, person, places, paper):
    """Whether a list of tuples (fraction, list of people) is a lift paper, by the words of promise 10."""
    worths = [Fraction(*score) for score, _ in paper]
    if worths != sorted(set(worths)) or not set(plain_values(rule, person)) <= set(worths):
        return False
    for worth, (_, people) in zip(worths, paper):
        by_own_reads = [marked for _, marked in own_reads(rule, person)]
        order = [rule.crowd.place(member) for member in people]
        if order != sorted(set(order)) or len(people) > places or not set(people) <= set(by_own_reads):
            return False
        if worth in plain_values(rule, person) and not set(plain_decided(rule, person, worth)) <= set(people):
            return False
    return True


class ValuesTest(unittest.TestCase):
    def test_ordinary(self):
        crowd = crowd_of(3, 2)
        self.assertEqual(values(Rule(crowd), "a"), [(0, 1), (1, 1), (2, 1), (3, 1), (4, 1)])
        self.assertEqual(values(Rule(crowd, gather="mean"), "a"), [(0, 1), (1, 2), (1, 1), (3, 2), (2, 1)])
        self.assertEqual(values(Rule(crowd, gather="median"), "a"), [(0, 1), (1, 2), (1, 1), (3, 2), (2, 1)])
        self.assertEqual(values(Rule(crowd, gather="least"), "a"), [(0, 1), (1, 1), (2, 1)])
        self.assertEqual(values(Rule(crowd, gather="greatest"), "a"), [(0, 1), (1, 1), (2, 1)])
        self.assertEqual(values(Rule(crowd_of(4, 2), gather="median"), "a"), [(0, 1), (1, 1), (2, 1)])
        self.assertEqual(values(Rule(crowd_of(4, 2), gather="trim", trim=1), "a"), [(0, 1), (1, 1), (2, 1)])
        self.assertEqual(values(Rule(crowd_of(5, 1), gather="trim", trim=1), "a"), [(0, 1), (1, 2), (1, 1)])

    def test_lists_of_one(self):
        crowd = crowd_of(3, 1)
        rule = Rule(crowd, gather="trim", trim=1, reads=[("b", "a"), ("c", "a"), ("a", "b")], lists=[["a"], ["b"], ["c"]])
        self.assertEqual(values(rule, "a"), [(0, 1), (1, 2), (1, 1)])
        self.assertEqual(values(rule, "b"), [(0, 1), (1, 1)])
        self.assertEqual(values(rule, "c"), [])
        self.assertEqual(values(Rule(Crowd(["a"], 1)), "a"), [])

    def test_all_rows_of_marks_of_the_readers(self):
        for rule in small_rules(120, 11):
            for person in rule.crowd:
                readers = len(rule.readers(person))
                rows = itertools.product(range(rule.crowd.most + 1), repeat=readers)
                told = sorted({plain_gathered(rule.gather, rule.trim, row) for row in rows}) if readers else []
                self.assertEqual(values(rule, person), [as_tuple(worth) for worth in told])

    def test_great(self):
        for rule in great_rules():
            for person in rule.crowd:
                self.assertEqual(values(rule, person), [as_tuple(worth) for worth in plain_values(rule, person)])


class DecidedTest(unittest.TestCase):
    def test_ordinary(self):
        rule = Rule(crowd_of(3, 2))
        self.assertEqual(decided(rule, "b", "a"), [(1, 1), (2, 1), (3, 1), (4, 1)])
        self.assertEqual(decided(rule, "b", "c"), [(0, 1), (1, 1), (2, 1), (3, 1)])
        least = rule.changed(gather="least")
        self.assertEqual(decided(least, "b", "a"), [(1, 1), (2, 1)])
        self.assertEqual(decided(least, "b", "c"), [(0, 1), (1, 1)])

    def test_no_members_by_own_reads(self):
        rule = Rule(crowd_of(4, 2), lists=[["a", "b"], ["c", "d"]], reads=[("a", "b"), ("b", "a"), ("a", "c"), ("a", "d")])
        self.assertEqual(decided(rule, "a", "a"), [])
        self.assertEqual(decided(rule, "a", "c"), [])
        self.assertEqual(decided(rule, "c", "d"), [])
        self.assertEqual(decided(rule, "a", "b"), [(0, 1), (1, 1)])
        self.assertEqual(decided(rule, "b", "a"), [(1, 1), (2, 1)])

    def check(self, rule):
        for person, marked in itertools.product(rule.crowd, rule.crowd):
            told = [as_tuple(worth) for worth in plain_values(rule, person) if marked in plain_decided(rule, person, worth)]
            self.assertEqual(decided(rule, person, marked), told)

    def test_all_marks_of_the_other_readers(self):
        for rule in small_rules(150, 12):
            self.check(rule)

    def test_great(self):
        for rule in great_rules():
            self.check(rule)


class LiftTest(unittest.TestCase):
    def test_examples(self):
        self.assertEqual(lifts(Rule(crowd_of(3, 2))), {"a": 2, "b": 2, "c": 2})
        rule = Rule(crowd_of(4, 2), lists=[["a", "b"], ["c", "d"]], reads=[("a", "c"), ("a", "d"), ("c", "a"), ("d", "b")])
        self.assertEqual(lifts(rule), {"a": 0, "b": 0, "c": 0, "d": 0})
        self.assertEqual(lifts(Rule(Crowd(["a"], 1))), {"a": 0})

    def test_greatest_mark_one(self):
        # With marks 0 and 1 and the least one counting, somebody in between cannot pass both at one score.
        crowd = crowd_of(3, 1)
        self.assertEqual(lifts(Rule(crowd, gather="least")), {"a": 2, "b": 1, "c": 2})
        self.assertEqual(lifts(Rule(crowd)), {"a": 2, "b": 2, "c": 2})

    def test_going_through_all_pages(self):
        chance = random.Random(13)
        for many, most, rules in [(1, 3, 2), (2, 3, 10), (3, 1, 40), (3, 2, 30), (4, 1, 14)]:
            for _ in range(rules):
                rule = some_rule(crowd_of(many, most), chance)
                self.assertEqual(lifts(rule), tried_lifts(rule))
        for gather, trim in GATHERED[:-1]:
            crowd = crowd_of(4, 1)
            if trim < 2:
                rule = Rule(crowd, gather=gather, trim=trim)
                self.assertEqual(lifts(rule), tried_lifts(rule))

    def test_all_by_own_reads_from_the_greatest_mark_two_on(self):
        chance = random.Random(14)
        for _ in range(150):
            rule = some_rule(crowd_of(chance.randint(1, 8), chance.randint(2, 10)), chance)
            self.assertEqual(lifts(rule), {person: len(own_reads(rule, person)) for person in rule.crowd})

    def test_safe_just_without_read_pairs_within_a_list(self):
        for rule in small_rules(150, 15):
            inner = [pair for pair in rule.reads if pair[1] in rule.list_of(pair[0])]
            self.assertEqual(is_safe(rule), not inner)
            self.assertEqual([person for person in rule.crowd if lift(rule, person) == 0], safe_people(rule))

    def test_great(self):
        for rule in great_rules():
            told = {person: plain_lift(rule, person) for person in rule.crowd}
            self.assertEqual(lifts(rule), told)
            self.assertEqual({person: lift(rule, person) for person in rule.crowd}, told)
            self.assertEqual(list(lifts(rule)), rule.crowd.people)


class LiftPagesTest(unittest.TestCase):
    def check(self, rule):
        for person in rule.crowd:
            told = lift_pages(rule, person)
            places = plain_lift(rule, person)
            if places == 0:
                self.assertIs(told, None)
                continue
            self.assertIs(type(told), tuple)
            page, other = told
            self.assertTrue(page.is_full and other.is_full and page.crowd == other.crowd == rule.crowd)
            unlike = [pair for pair in rule.crowd.pairs() if page[pair] != other[pair]]
            self.assertEqual({pair[0] for pair in unlike}, {person})
            self.assertEqual(plain_ranks(rule, other)[person] - plain_ranks(rule, page)[person], places)
            self.assertIs(is_moved(rule, person, places, told), True)
            self.assertIs(is_moved(rule, person, places, (other, page)), True)
            self.assertIs(is_moved(rule, person, places + 1, told), False)
            self.assertEqual(lift_pages(rule, person), told)

    def test_small(self):
        for rule in small_rules(200, 16):
            self.check(rule)

    def test_middle(self):
        chance = random.Random(17)
        for _ in range(60):
            self.check(some_rule(crowd_of(chance.randint(5, 8), chance.choice([1, 1, 2, 3, 7])), chance))

    def test_great(self):
        for rule in great_rules():
            self.check(rule)


class IsMovedTest(unittest.TestCase):
    def setUp(self):
        self.crowd = crowd_of(3, 2)
        self.rule = Rule(self.crowd)
        self.page = Page.filled(self.crowd, 1)

    def test_ordinary(self):
        low = self.page.with_row("c", {"a": 0, "b": 0})
        high = self.page.with_row("c", {"a": 2, "b": 2})
        self.assertIs(is_moved(self.rule, "c", 2, (low, high)), True)
        self.assertIs(is_moved(self.rule, "c", 2, (high, low)), True)
        self.assertIs(is_moved(self.rule, "c", 1, (low, high)), False)
        self.assertIs(is_moved(self.rule, "c", 0, (low, high)), False)
        self.assertIs(is_moved(self.rule, "a", 2, (low, high)), False)
        self.assertIs(is_moved(self.rule, "a", 1, (low, high)), False)
        self.assertIs(is_moved(self.rule, "c", 0, (low, low)), True)
        self.assertIs(is_moved(self.rule, "a", 0, (low, low)), True)
        self.assertIs(is_moved(self.rule, "c", 10 ** 50, (low, high)), False)
        self.assertIs(is_moved(value=(low, high), places=2, person="c", rule=self.rule), True)

    def test_any_value(self):
        low = self.page.with_row("c", {"a": 0, "b": 0})
        wide = Page.filled(crowd_of(3, 3), 1)
        turned = Page.filled(Crowd(["b", "a", "c"], 2), 1)
        for value in ODD + [self.page, [low, low], (low,), (low, low, low), (low, None), (None, low), {low.is_full: low},
                            (wide, wide), (turned, turned), (low, wide), (low.marks, low.marks), (Alike(), low), (low, Alike())]:
            self.assertIs(is_moved(self.rule, "c", 0, value), False)
        for mark in [("a", "b"), ("c", "a")]:
            lacking = low.with_mark(mark, None)
            for value in [(low, lacking), (lacking, low), (lacking, lacking)]:
                self.assertIs(is_moved(self.rule, "c", 0, value), False)
        self.assertIs(is_moved(self.rule, "c", 0, (low, low.with_mark(("a", "b"), 0))), False)
        self.assertIs(is_moved(self.rule, "c", 0, (low.with_mark(("a", "b"), 0), low)), False)

    def test_rows_that_are_not_plain(self):
        for turn in ("centred", "placed"):
            rule = self.rule.changed(turn=turn)
            page = Page.filled(self.crowd, 0).with_row("a", {"b": 0, "c": 2})
            other = page.with_row("a", {"b": 2, "c": 0})
            before, behind = plain_ranks(rule, page)["a"], plain_ranks(rule, other)["a"]
            for places in range(3):
                self.assertIs(is_moved(rule, "a", places, (page, other)), places == abs(before - behind))

    def test_by_lot(self):
        chance = random.Random(18)
        for _ in range(200):
            crowd = crowd_of(chance.randint(1, 5), chance.randint(1, 3))
            rule = some_rule(crowd, chance, chance.choice(["plain", "plain", "centred", "placed"]))
            page = some_page(crowd, chance, 0)
            for person in crowd:
                other = page.with_row(person, some_page(crowd, chance, 0).row(person))
                places = abs(plain_ranks(rule, page)[person] - plain_ranks(rule, other)[person])
                for number in range(5):
                    self.assertIs(is_moved(rule, person, number, (page, other)), number == places)


class ReachTest(unittest.TestCase):
    def test_trying_all_own_rows(self):
        chance = random.Random(19)
        for _ in range(150):
            crowd = crowd_of(chance.randint(1, 4), chance.randint(1, 2))
            rule, page = some_rule(crowd, chance), some_page(crowd, chance, chance.choice([0, 2, 4]))
            for person in crowd:
                told = [plain_ranks(rule, page.with_row(person, row))[person] for row in all_rows(crowd, person)]
                self.assertEqual(reach(rule, page, person), (min(told), max(told)))

    def test_own_missing_marks_do_not_count(self):
        rule = Rule(crowd_of(3, 2), gather="mean")
        self.assertEqual(reach(rule, Page.filled(rule.crowd, None), "a"), (1, 3))
        self.assertEqual(reach(rule, Page.filled(rule.crowd, None), "c"), (3, 3))
        self.assertEqual(reach(page=Page.filled(rule.crowd, 1), person="c", rule=rule), (1, 3))

    def test_great(self):
        chance = random.Random(20)
        for rule in great_rules():
            ranker = Ranker(rule)
            for missing in (0, 3):
                page = some_page(rule.crowd, chance, missing)
                for person in rule.crowd:
                    best, worst = reach(rule, page, person)
                    self.assertLessEqual(worst - best, lift(rule, person) if missing == 0 else 7)
                    for _ in range(3):
                        row = some_page(rule.crowd, chance, 0).row(person)
                        self.assertTrue(best <= ranker(page.with_row(person, row))[person] <= worst)
                    for rank, mark in [(best, 0), (worst, 10)]:
                        row = {other: mark for other in rule.crowd if other != person}
                        self.assertEqual(ranker(page.with_row(person, row))[person], rank)


class LiftPaperTest(unittest.TestCase):
    def check(self, rule, chance):
        for person in rule.crowd:
            places, paper = lift(rule, person), lift_paper(rule, person)
            self.assertIs(type(paper), list)
            self.assertTrue(is_right_paper(rule, person, places, paper))
            for number in range(9):
                self.assertIs(bounds_lift(rule, person, number, paper), number >= places)
            self.assertIs(bounds_lift(rule, person, 10 ** 50, paper), True)
            for _ in range(6):
                other = self.other_paper(rule, person, paper, chance)
                for number in (max(places - 1, 0), places, places + 1, 7):
                    self.assertIs(bounds_lift(rule, person, number, other), is_right_paper(rule, person, number, other))

    def other_paper(self, rule, person, paper, chance):
        """A paper with something left out, put in, or in another order: right or wrong."""
        rows = [(score, list(people)) for score, people in paper]
        for _ in range(chance.randint(1, 2)):
            way = chance.randrange(6)
            if way == 0 and rows:
                rows.pop(chance.randrange(len(rows)))
            elif way == 1:
                score = as_tuple(Fraction(chance.randint(-3, 30), chance.randint(1, 5)))
                rows.append((score, [marked for _, marked in own_reads(rule, person)][:chance.randint(0, 7)]))
                rows.sort(key=lambda row: Fraction(*row[0]))
            elif way == 2 and len(rows) > 1:
                at = chance.randrange(len(rows) - 1)
                rows[at], rows[at + 1] = rows[at + 1], rows[at]
            elif way == 3 and rows:
                people = rows[chance.randrange(len(rows))][1]
                people.insert(chance.randrange(len(people) + 1), chance.choice(rule.crowd.people))
            elif way == 4 and rows:
                people = rows[chance.randrange(len(rows))][1]
                chance.shuffle(people)
            elif rows:
                people = rows[chance.randrange(len(rows))][1]
                del people[:1]
        return rows

    def test_ordinary(self):
        rule = Rule(crowd_of(3, 1), gather="least")
        self.assertEqual(lift_paper(rule, "b"), [((0, 1), ["c"]), ((1, 1), ["a"])])
        self.assertEqual(lift_paper(rule, "a"), [((0, 1), ["b", "c"]), ((1, 1), [])])
        self.assertEqual(lift_paper(Rule(Crowd(["a"], 1)), "a"), [])

    def test_other_authors(self):
        rule = Rule(crowd_of(3, 1), gather="least")
        right = [((-1, 1), ["a"]), ((0, 1), ["a", "c"]), ((1, 2), ["a", "c"]), ((1, 1), ["a"]), ((7, 3), [])]
        self.assertIs(bounds_lift(rule, "b", 2, right), True)
        self.assertIs(bounds_lift(rule, "b", 1, right), False)
        self.assertIs(bounds_lift(rule, "b", 1, [row for row in right if row[0] in [(0, 1), (1, 1)]]), False)
        self.assertIs(bounds_lift(paper=right, places=3, person="b", rule=rule), True)
        wrong = [[right[0], right[2], right[3]], right[:3], right[::-1], right + right[-1:], [right[1], right[1], right[3]],
                 [((0, 1), ["c"]), ((1, 1), [])], [((0, 1), []), ((1, 1), ["a"])], [((0, 1), ["c", "a"]), ((1, 1), ["a"])],
                 [((0, 1), ["c", "c"]), ((1, 1), ["a"])], [((0, 1), ["b", "c"]), ((1, 1), ["a"])],
                 [((0, 1), ["c", "d"]), ((1, 1), ["a"])]]
        for paper in wrong:
            self.assertIs(bounds_lift(rule, "b", 7, paper), False)

    def test_only_members_by_own_reads(self):
        rule = Rule(crowd_of(3, 1), reads=[("a", "b"), ("b", "c"), ("c", "a")])
        self.assertEqual(lift_paper(rule, "a"), [((0, 1), ["b"]), ((1, 1), [])])
        self.assertIs(bounds_lift(rule, "a", 2, [((0, 1), ["b"]), ((1, 1), ["b"])]), True)
        self.assertIs(bounds_lift(rule, "a", 2, [((0, 1), ["b", "c"]), ((1, 1), [])]), False)
        self.assertIs(bounds_lift(rule, "a", 2, [((0, 1), ["b"]), ((1, 1), []), ((2, 1), ["c"])]), False)

    def test_without_readers(self):
        rule = Rule(crowd_of(2, 1), reads=[], lists=[["a"], ["b"]])
        for paper, right in [([], True), ([((1, 2), [])], True), ([((1, 2), ["b"])], False), ((), False), (None, False)]:
            self.assertIs(bounds_lift(rule, "a", 0, paper), right)

    def test_any_value(self):
        rule = Rule(crowd_of(3, 1), gather="least")
        good = [((0, 1), ["c"]), ((1, 1), ["a"])]
        self.assertIs(bounds_lift(rule, "b", 1, good), True)
        papers = ODD + [tuple(good), dict([((0, 1), ("c",))]), iter(good), [list(row) for row in good], good + [None], [[]], [()]]
        for value in ODD + [(0, 2), (2, 2), (1, -1), (0, -1), (True, 1), (1, True), (1.0, 1), ("0", "1"), (0, 1, 1), [0, 1], 0]:
            papers += [[(value, ["c"]), good[1]], [good[0], good[1], (value, [])], [(value, [])] + good]
        for value in odd_without([], ["a"]) + ["c", ("c",), {"c": 1}, {"c"}, [Alike()], ["c", None], [["c"]], [True]]:
            papers += [[((0, 1), value), good[1]], [good[0], ((1, 1), ["a"]), ((2, 1), value)]]
        for value in [(True, 1), (1, True), (2, 2), (-1, -1), (1.0, 1), [1, 1], (1, 1, 1)]:
            papers.append([good[0], (value, ["a"])])
        for value in [(False, 1), (0, True), (0, 2), (0, -1), [0, 1]]:
            papers.append([(value, ["c"]), good[1]])
        for value in [(4, 2), (1, 0), (3, True), (4, -1), (2.0, 1)]:
            papers.append(good + [(value, [])])
        papers += [[((0, 1), [Alike(), Alike()]), good[1]], [((0, 1), [Alike(), "c"]), good[1]]]
        papers += [[((0, 1), ["c"], 1), good[1]], [((0, 1),), good[1]], [((0, 1), ["c"]), ((2, 2), ["a"])]]
        for paper in papers:
            self.assertIs(bounds_lift(rule, "b", 2, paper), False)

    def test_small(self):
        chance = random.Random(21)
        for rule in small_rules(120, 22):
            self.check(rule, chance)

    def test_great(self):
        chance = random.Random(23)
        for rule in great_rules():
            self.check(rule, chance)

    def test_told_lists_belong_to_the_caller(self):
        rule = Rule(crowd_of(3, 2))
        lift_paper(rule, "a")[0][1].clear()
        values(rule, "a").clear()
        decided(rule, "a", "b").clear()
        lifts(rule).clear()
        self.assertEqual(lift_paper(rule, "a")[0], ((0, 1), ["b", "c"]))
        self.assertEqual((len(values(rule, "a")), len(decided(rule, "a", "b")), len(lifts(rule))), (5, 4, 3))


class WrongArgumentsTest(RefusingCase):
    def setUp(self):
        self.crowd = crowd_of(3, 2)
        self.rule = Rule(self.crowd)
        self.page = Page.filled(self.crowd, 1)

    def test_rule(self):
        turned = [self.rule.changed(turn="centred"), self.rule.changed(turn="placed", gather="mean")]
        for value in ODD + [self.crowd, self.page] + turned:
            for call in (values, lift, lift_pages, lift_paper):
                self.refused(BadArgument, "value", value, call, value, "z")
                self.refused(BadArgument, "value", value, call, person="a", rule=value)
            self.refused(BadArgument, "value", value, lifts, value)
            self.refused(BadArgument, "value", value, lifts, rule=value)
            self.refused(BadArgument, "value", value, decided, value, "z", "z")
            self.refused(BadArgument, "value", value, decided, marked="b", person="a", rule=value)
            self.refused(BadArgument, "value", value, reach, value, None, "z")
            self.refused(BadArgument, "value", value, reach, page=self.page, person="a", rule=value)
            self.refused(BadArgument, "value", value, bounds_lift, value, "z", -1, None)
            self.refused(BadArgument, "value", value, bounds_lift, paper=[], places=0, person="a", rule=value)
        for value in ODD + [self.crowd, self.page]:
            self.refused(BadArgument, "value", value, is_moved, value, "z", -1, None)
        for rule in turned:
            self.assertIs(is_moved(rule, "a", 0, (self.page, self.page)), True)

    def test_person(self):
        for value in ODD + ["d"]:
            for call in (values, lift, lift_pages, lift_paper):
                self.refused(NotThere, "word", value, call, self.rule, value)
                self.refused(NotThere, "word", value, call, person=value, rule=self.rule)
            self.refused(NotThere, "word", value, decided, self.rule, value, object())
            self.refused(NotThere, "word", value, decided, self.rule, "a", value)
            self.refused(NotThere, "word", value, decided, marked=value, rule=self.rule, person="b")
            self.refused(NotThere, "word", value, reach, self.rule, self.page, value)
            self.refused(NotThere, "word", value, is_moved, self.rule, value, -1, None)
            self.refused(NotThere, "word", value, bounds_lift, self.rule, value, -1, None)

    def test_page(self):
        pages = [Page.filled(crowd_of(3, 3), 1), Page.filled(crowd_of(4, 2), 1), Page.filled(Crowd(["b", "a", "c"], 2), 1)]
        for value in ODD + pages + [self.rule]:
            self.refused(BadArgument, "value", value, reach, self.rule, value, "z")
            self.refused(BadArgument, "value", value, reach, person="a", page=value, rule=self.rule)

    def test_places(self):
        for value in NO_PLACES:
            self.refused(BadNumber, "number", value, is_moved, self.rule, "a", value, (self.page, self.page))
            self.refused(BadNumber, "number", value, is_moved, self.rule, "a", value, None)
            self.refused(BadNumber, "number", value, bounds_lift, self.rule, "a", value, [])
            self.refused(BadNumber, "number", value, bounds_lift, paper=None, places=value, person="a", rule=self.rule)

    def test_by_name(self):
        self.assertEqual(values(person="a", rule=self.rule), values(self.rule, "a"))
        self.assertEqual(decided(marked="b", person="a", rule=self.rule), decided(self.rule, "a", "b"))
        self.assertEqual((lift(person="a", rule=self.rule), lifts(rule=self.rule)["a"]), (2, 2))
        self.assertEqual(lift_pages(person="a", rule=self.rule), lift_pages(self.rule, "a"))
        self.assertEqual(lift_paper(person="a", rule=self.rule), lift_paper(self.rule, "a"))


if __name__ == "__main__":
    unittest.main()
