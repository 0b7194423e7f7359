"""Promises 1 (c) and 12: whether own marks can win or lose a prize, with pages, or a prize paper."""

import random
import unittest
from fractions import Fraction

from ownmarks.crowds import Crowd
from ownmarks.errors import BadArgument, NotThere
from ownmarks.pages import Page
from ownmarks.prizes import (hanging, is_prize_move, may_be_ahead, prize_hangs, prize_pages, prize_paper, shows_prize,
                             sure_ahead)
from ownmarks.rules import Rule
from ownmarks.swings import values
from tests.helping import (GATHERED, ODD, Alike, RefusingCase, all_pages, as_tuple, crowd_of, great_rules, odd_without, plain_decided,
                           plain_ranks, plain_scores, plain_values, small_rules, some_page, some_rule)

OF_PERSON = [prize_hangs, prize_pages, prize_paper]


def other_members(rule, person):
    return [member for member in rule.list_of(person) if member != person]


def plain_ahead(rule, member, worth, person, own):
    return worth > own or worth == own and rule.crowd.place(member) < rule.crowd.place(person)


def plain_sure(rule, person, own):
    """The members that are ahead with each score that they can have, if somebody has this score."""
    return [member for member in other_members(rule, person)
            if all(plain_ahead(rule, member, worth, person, own) for worth in plain_values(rule, member))]


def plain_possible(rule, person, own):
    return [member for member in other_members(rule, person)
            if any(plain_ahead(rule, member, worth, person, own) for worth in plain_values(rule, member))]


def plain_hangs(rule, person):
    """Whether the prize hangs on own marks, by the words of promise 12."""
    for own in plain_values(rule, person):
        sure, possible = plain_sure(rule, person, own), plain_possible(rule, person, own)
        for member in plain_decided(rule, person, own):
            few = len([one for one in sure if one != member])
            many = len([one for one in possible if one != member])
            if few <= rule.prizes - 1 <= many:
                return True
    return False


def is_right_paper(rule, person, paper):
    """Whether a list of tuples (fraction, people, people) is a prize paper, by the words of promise 12."""
    worths = [Fraction(*score) for score, _, _ in paper]
    if worths != sorted(set(worths)) or not set(plain_values(rule, person)) <= set(worths):
        return False
    members = other_members(rule, person)
    for own, (_, ahead, behind) in zip(worths, paper):
        for people in (ahead, behind):
            places = [members.index(one) if one in members else -1 for one in people]
            if places != sorted(set(places)) or -1 in places:
                return False
        if not set(ahead) <= set(plain_sure(rule, person, own)) or set(behind) & set(plain_possible(rule, person, own)):
            return False
        if own in plain_values(rule, person):
            for member in plain_decided(rule, person, own):
                others = [one for one in members if one != member]
                if len([one for one in others if one in ahead]) < rule.prizes:
                    if len([one for one in others if one not in behind]) > rule.prizes - 2:
                        return False
    return True


def through_pages(rule):
    """By all full pages: who is ahead on some and on all of them by person and score, and whose prizes hang."""
    some, every, won = {}, {}, {}
    for page in all_pages(rule.crowd):
        ranks, found = plain_ranks(rule, page), plain_scores(rule, page)
        for person in rule.crowd:
            ahead = {one for one in other_members(rule, person) if ranks[one] < ranks[person]}
            key = (person, found[person])
            some.setdefault(key, set()).update(ahead)
            every[key] = every.get(key, ahead) & ahead
            others = tuple(mark for pair, mark in page.marks.items() if pair[0] != person)
            won.setdefault((person, others), set()).add(ranks[person] <= rule.prizes)
    hangs = {person for (person, _), told in won.items() if len(told) == 2}
    return some, every, [person for person in rule.crowd if person in hangs]


class PagesThroughTest(unittest.TestCase):
    """Small rules, by all full pages."""

    def check(self, rule):
        some, every, hangs = through_pages(rule)
        for (person, own), ahead in some.items():
            if own is None:
                continue
            members = other_members(rule, person)
            told = [member for member in members if member in every[person, own]]
            self.assertEqual(sure_ahead(rule, person, as_tuple(own)), told)
            told = [member for member in members if member in ahead]
            self.assertEqual(may_be_ahead(rule, person, as_tuple(own)), told)
        self.assertEqual(hanging(rule), hangs)
        self.assertEqual([person for person in rule.crowd if prize_hangs(rule, person)], hangs)
        self.assertEqual([person for person in rule.crowd if prize_pages(rule, person) is not None], hangs)
        self.assertEqual([person for person in rule.crowd if prize_paper(rule, person) is None], hangs)

    def test_by_lot(self):
        chance = random.Random(51)
        for people, most, many in [(1, 3, 2), (2, 3, 12), (3, 1, 60), (3, 2, 25), (4, 1, 12)]:
            for _ in range(many):
                rule = some_rule(crowd_of(people, most), chance)
                self.check(rule.changed(prizes=chance.randint(0, people + 1)))

    def test_each_gather_and_number_of_prizes(self):
        for gather, trim in GATHERED:
            if trim < 2:
                rule = Rule(crowd_of(4, 1), gather=gather, trim=trim)
                self.check(rule.changed(prizes=2))
                if trim == 0:
                    rule = Rule(crowd_of(3, 2), gather=gather, lists=[["a", "c"], ["b"]])
                    for prizes in (0, 1, 2, 3, 8):
                        self.check(rule.changed(prizes=prizes))


class HangingTest(unittest.TestCase):
    def test_ordinary(self):
        rule = Rule(crowd_of(3, 2))
        self.assertEqual([hanging(rule.changed(prizes=prizes)) for prizes in (0, 1, 2, 3, 8)],
                         [[], ["a", "b", "c"], ["a", "b", "c"], [], []])
        self.assertIs(prize_hangs(rule, "a"), False)
        self.assertIs(prize_hangs(rule.changed(prizes=1), "a"), True)

    def test_nobody_to_pass(self):
        rule = Rule(crowd_of(3, 1), reads=[("a", "b")], lists=[["a"], ["b"], ["c"]], prizes=1)
        self.assertEqual(hanging(rule), [])
        self.assertEqual(prize_paper(rule, "a"), [])
        self.assertEqual(prize_paper(rule, "b"), [((0, 1), [], []), ((1, 1), [], [])])
        self.assertEqual(hanging(Rule(Crowd(["a"], 3), prizes=1)), [])
        safe = Rule(crowd_of(4, 2), lists=[["a", "b"], ["c", "d"]], reads=[("a", "c"), ("a", "d"), ("c", "a"), ("d", "b")], prizes=1)
        self.assertEqual(hanging(safe), [])

    def test_a_mark_that_moves_no_prize(self):
        # With marks 0 and 1 and one reader each, b can pass c at nought alone, where a is ahead of both.
        rule = Rule(crowd_of(3, 1), reads=[("b", "c"), ("c", "a"), ("a", "b")], prizes=1)
        self.assertEqual(hanging(rule), ["a", "c"])
        self.assertEqual(hanging(rule.changed(prizes=2)), ["a", "b", "c"])
        self.assertEqual(sure_ahead(rule, "c", (0, 1)), ["a", "b"])
        self.assertEqual(sure_ahead(rule, "c", (1, 1)), [])
        self.assertEqual(may_be_ahead(rule, "a", (1, 1)), [])
        self.assertEqual(may_be_ahead(rule, "a", (0, 1)), ["b", "c"])

    def test_scores_of_unlike_steps(self):
        rule = Rule(crowd_of(3, 1), gather="mean", reads=[("b", "a"), ("c", "a"), ("a", "b"), ("a", "c")])
        self.assertEqual(sure_ahead(rule, "a", (1, 2)), [])
        self.assertEqual(may_be_ahead(rule, "a", (1, 2)), ["b", "c"])
        self.assertEqual(may_be_ahead(rule, "b", (1, 1)), ["a"])
        self.assertEqual(sure_ahead(rule, "b", (0, 1)), ["a"])

    def check_great(self, rule):
        hangs = [person for person in rule.crowd if plain_hangs(rule, person)]
        self.assertEqual(hanging(rule), hangs)
        for person in rule.crowd:
            self.assertIs(prize_hangs(rule, person), person in hangs)
            for own in plain_values(rule, person)[:40:3]:
                self.assertEqual(sure_ahead(rule, person, as_tuple(own)), plain_sure(rule, person, own))
                self.assertEqual(may_be_ahead(rule, person, as_tuple(own)), plain_possible(rule, person, own))

    def test_great(self):
        chance = random.Random(52)
        for rule in great_rules():
            self.check_great(rule.changed(prizes=chance.randint(1, 7)))

    def test_middle(self):
        chance = random.Random(53)
        for _ in range(60):
            rule = some_rule(crowd_of(chance.randint(4, 8), chance.choice([1, 1, 1, 2, 5])), chance)
            self.check_great(rule.changed(prizes=chance.randint(0, 8)))


class PrizePagesTest(unittest.TestCase):
    def check(self, rule):
        for person in rule.crowd:
            told = prize_pages(rule, person)
            self.assertEqual(prize_pages(rule, person), told)
            if not plain_hangs(rule, person):
                self.assertIs(told, None)
                continue
            self.assertIs(type(told), tuple)
            page, other = told
            self.assertTrue(page.is_full and other.is_full and page.crowd == other.crowd == rule.crowd)
            self.assertEqual({pair[0] for pair in rule.crowd.pairs() if page[pair] != other[pair]}, {person})
            self.assertLessEqual(plain_ranks(rule, page)[person], rule.prizes)
            self.assertGreater(plain_ranks(rule, other)[person], rule.prizes)
            self.assertIs(is_prize_move(rule, person, told), True)
            self.assertIs(is_prize_move(rule, person, (other, page)), False)

    def test_small(self):
        chance = random.Random(54)
        for rule in small_rules(200, 55):
            self.check(rule.changed(prizes=chance.randint(0, 4)))

    def test_middle(self):
        chance = random.Random(56)
        for _ in range(60):
            rule = some_rule(crowd_of(chance.randint(5, 8), chance.choice([1, 1, 2, 3, 7])), chance)
            self.check(rule.changed(prizes=chance.randint(1, 8)))

    def test_great(self):
        for rule in great_rules():
            for prizes in (1, 3, 7):
                self.check(rule.changed(prizes=prizes))


class IsPrizeMoveTest(unittest.TestCase):
    def setUp(self):
        self.crowd = crowd_of(3, 2)
        self.rule = Rule(self.crowd, prizes=1)
        self.low = Page.filled(self.crowd, 1).with_row("c", {"a": 0, "b": 0}).with_row("a", {"b": 0, "c": 2})
        self.high = self.low.with_row("c", {"a": 2, "b": 2})

    def test_ordinary(self):
        self.assertIs(is_prize_move(self.rule, "c", (self.low, self.high)), True)
        self.assertIs(is_prize_move(self.rule, "c", (self.high, self.low)), False)
        self.assertIs(is_prize_move(self.rule, "c", (self.low, self.low)), False)
        self.assertIs(is_prize_move(self.rule, "a", (self.low, self.high)), False)
        self.assertIs(is_prize_move(self.rule, "a", (self.high, self.low)), False)
        self.assertIs(is_prize_move(self.rule.changed(prizes=0), "c", (self.low, self.high)), False)
        self.assertIs(is_prize_move(value=(self.low, self.high), person="c", rule=self.rule), True)

    def test_any_value(self):
        low, high = self.low, self.high
        wide = Page.filled(crowd_of(3, 3), 1)
        others = [high.with_mark(("a", "b"), 1), high.with_mark(("b", "a"), 0)]
        values_ = ODD + [low, [low, high], (low,), (low, high, high), (low, None), (None, high), (wide, wide), (low, wide), (wide, high),
                         (Alike(), high), (low, Alike()), (low.marks, high.marks), {low.is_full: high}, iter([low, high])]
        for value in values_ + [(low, other) for other in others]:
            self.assertIs(is_prize_move(self.rule, "c", value), False)
        for pair in self.crowd.pairs():
            lacking = low.with_mark(pair, None)
            self.assertIs(is_prize_move(self.rule, "c", (lacking, high)), False)
            self.assertIs(is_prize_move(self.rule, "c", (low, high.with_mark(pair, None))), False)
            self.assertIs(is_prize_move(self.rule, "c", (lacking, high.with_mark(pair, None))), False)

    def test_by_lot(self):
        chance = random.Random(57)
        for _ in range(300):
            crowd = crowd_of(chance.randint(1, 5), chance.randint(1, 3))
            rule, page = some_rule(crowd, chance).changed(prizes=chance.randint(0, 3)), some_page(crowd, chance, 0)
            for person in crowd:
                other = page.with_row(person, some_page(crowd, chance, 0).row(person))
                won = [plain_ranks(rule, one)[person] <= rule.prizes for one in (page, other)]
                self.assertIs(is_prize_move(rule, person, (page, other)), won == [True, False])


class PrizePaperTest(unittest.TestCase):
    def check(self, rule, chance):
        for person in rule.crowd:
            paper = prize_paper(rule, person)
            if plain_hangs(rule, person):
                self.assertIs(paper, None)
                full = [(as_tuple(own), plain_sure(rule, person, own),
                         [one for one in other_members(rule, person) if one not in plain_possible(rule, person, own)])
                        for own in plain_values(rule, person)]
                self.assertIs(shows_prize(rule, person, full), False)
                continue
            self.assertIs(type(paper), list)
            self.assertTrue(is_right_paper(rule, person, paper))
            self.assertIs(shows_prize(rule, person, paper), True)
            for _ in range(6):
                other = self.other_paper(rule, person, paper, chance)
                self.assertIs(shows_prize(rule, person, other), is_right_paper(rule, person, other))

    def other_paper(self, rule, person, paper, chance):
        """A paper with something left out, put in, or in another order: right or wrong."""
        rows = [(score, list(ahead), list(behind)) for score, ahead, behind in paper]
        for _ in range(chance.randint(1, 2)):
            way = chance.randrange(7)
            people = rows[chance.randrange(len(rows))][chance.randint(1, 2)] if rows else []
            if way == 0 and rows:
                rows.pop(chance.randrange(len(rows)))
            elif way in (1, 2):
                own = Fraction(chance.randint(-3, 30), chance.randint(1, 5))
                rows.append((as_tuple(own), plain_sure(rule, person, own)[:chance.randint(0, 8)],
                             [one for one in other_members(rule, person) if one not in plain_possible(rule, person, own)]))
                rows.sort(key=lambda row: Fraction(*row[0]))
            elif way == 3 and len(rows) > 1:
                at = chance.randrange(len(rows) - 1)
                rows[at], rows[at + 1] = rows[at + 1], rows[at]
            elif way == 4:
                people.insert(chance.randrange(len(people) + 1), chance.choice(rule.crowd.people))
            elif way == 5:
                chance.shuffle(people)
            else:
                del people[:1]
        return rows

    def setUp(self):
        self.rule = Rule(crowd_of(3, 1), gather="least", prizes=1)
        self.good = [((0, 1), [], []), ((1, 1), [], ["b", "c"])]

    def test_ordinary(self):
        rule = Rule(crowd_of(3, 1), reads=[("b", "c"), ("c", "a"), ("a", "b")], prizes=1)
        self.assertEqual(prize_paper(rule, "b"), [((0, 1), ["a"], []), ((1, 1), [], ["c"])])
        self.assertIs(prize_paper(rule, "a"), None)
        self.assertEqual(prize_paper(rule.changed(prizes=0), "a"), [((0, 1), [], []), ((1, 1), [], ["b", "c"])])
        self.assertEqual(prize_paper(rule.changed(prizes=3), "c"), [((0, 1), ["a", "b"], []), ((1, 1), [], [])])

    def test_other_authors(self):
        rule = self.rule.changed(prizes=0)
        right = [((-1, 2), ["b", "c"], []), ((0, 1), [], []), ((1, 2), [], []), ((1, 1), [], ["b"]), ((5, 4), [], ["c"])]
        self.assertIs(shows_prize(rule, "a", right), True)
        self.assertIs(shows_prize(paper=right, person="a", rule=rule), True)
        self.assertIs(shows_prize(rule, "a", right[1:4]), True)
        self.assertIs(shows_prize(rule, "a", [right[1], right[3]]), True)
        wrong = [right[:3], right[2:], right[::-1], right + right[-1:], [right[1], right[1], right[3]]]
        for ahead, behind in [(["b"], []), (["c"], []), ([], ["b"]), ([], ["c"]), (["a"], []), ([], ["a"])]:
            wrong += [[((0, 1), ahead, behind), right[3]], [right[1], ((1, 2), ahead, behind), right[3]]]
        for ahead, behind in [(["c", "b"], []), (["b", "b"], []), (["a", "b"], []), ([], ["b"]), (["b", "d"], [])]:
            wrong += [[((-1, 2), ahead, behind), right[1], right[3]]]
        for ahead, behind in [([], ["c", "b"]), ([], ["c", "c"]), ([], ["a", "c"]), (["b"], []), ([], ["c", "d"])]:
            wrong += [[right[1], ((1, 1), ahead, behind)], [right[1], right[3], ((3, 2), ahead, behind)]]
        for paper in wrong:
            self.assertIs(shows_prize(rule, "a", paper), False)

    def test_enough_ahead_or_behind(self):
        rule = Rule(crowd_of(3, 1), reads=[("b", "c"), ("c", "a"), ("a", "b")], prizes=1)
        for ahead, told in [(["a"], True), ([], False)]:
            self.assertIs(shows_prize(rule, "b", [((0, 1), ahead, []), ((1, 1), [], [])]), told)
        # At one, a marks nobody who could still pass it: two prizes need both others behind, or two of them ahead.
        rule = rule.changed(prizes=3)
        for behind, told in [([], True), (["c"], True), (["b"], False)]:
            self.assertIs(shows_prize(rule, "b", [((0, 1), [], []), ((1, 1), [], behind)]), told)
        rule = Rule(crowd_of(3, 1), reads=[("a", "c"), ("b", "c"), ("b", "a"), ("a", "b")], lists=[["a", "b"], ["c"]], prizes=2)
        for behind, told in [([], True), (["b"], False)]:
            self.assertIs(shows_prize(rule, "a", [((0, 1), [], behind), ((1, 1), [], [])]), told)

    def test_without_readers(self):
        rule = Rule(crowd_of(2, 1), reads=[], lists=[["a"], ["b"]], prizes=1)
        for paper, right in [([], True), ([((1, 2), [], [])], True), ([((1, 2), ["b"], [])], False), ([((9, 2), [], ["b"])], False),
                             ((), False), (None, False)]:
            self.assertIs(shows_prize(rule, "a", paper), right)

    def test_any_value(self):
        rule, good = self.rule.changed(prizes=0), self.good
        self.assertIs(shows_prize(rule, "a", good), True)
        papers = ODD + [tuple(good), dict([((0, 1), ())]), iter(good), [list(row) for row in good], good + [None], [[]], [()]]
        for value in ODD + [(0, 2), (2, 2), (1, -1), (0, -1), (True, 1), (1, True), (1.0, 1), ("0", "1"), (0, 1, 1), [0, 1], 0]:
            papers += [[(value, [], []), good[1]], [good[0], (value, [], [])], good + [(value, [], [])], [(value, [], [])] + good]
        for value in odd_without([]) + [("b",), {"b": 1}, {"b"}, [Alike()], [None], [["b"]], [True], ()]:
            papers += [[((0, 1), value, []), good[1]], [((0, 1), [], value), good[1]], [good[0], ((1, 1), value, [])]]
            if value != ["b"]:
                papers += [[good[0], ((1, 1), [], value)]]
        papers += [[((-1, 1), [Alike(), "c"], []), *good], [good[0], ((1, 1), [], [Alike(), Alike()])]]
        papers += [[((0, 1), []), good[1]], [((0, 1), [], [], []), good[1]], [((0, 1),), good[1]], [good[0] * 2, good[1]]]
        for paper in papers:
            self.assertIs(shows_prize(rule, "a", paper), False, paper)

    def test_small(self):
        chance = random.Random(58)
        for rule in small_rules(150, 59):
            self.check(rule.changed(prizes=chance.randint(0, 4)), chance)

    def test_middle(self):
        chance = random.Random(60)
        for _ in range(50):
            rule = some_rule(crowd_of(chance.randint(4, 8), chance.choice([1, 1, 2])), chance)
            self.check(rule.changed(prizes=chance.randint(0, 8)), chance)

    def test_great(self):
        chance = random.Random(61)
        for rule in great_rules():
            for prizes in (0, 2, 8):
                self.check(rule.changed(prizes=prizes), chance)


class WrongArgumentsTest(RefusingCase):
    def setUp(self):
        self.crowd = crowd_of(3, 2)
        self.rule = Rule(self.crowd, prizes=1)
        self.page = Page.filled(self.crowd, 1)

    def test_rule(self):
        turned = [self.rule.changed(turn="centred"), self.rule.changed(turn="placed", gather="mean")]
        for value in ODD + [self.crowd, self.page] + turned:
            for call in OF_PERSON:
                self.refused(BadArgument, "value", value, call, value, "z")
                self.refused(BadArgument, "value", value, call, person="a", rule=value)
            for call in (sure_ahead, may_be_ahead):
                self.refused(BadArgument, "value", value, call, value, "z", None)
                self.refused(BadArgument, "value", value, call, score=(1, 1), person="a", rule=value)
            self.refused(BadArgument, "value", value, hanging, value)
            self.refused(BadArgument, "value", value, hanging, rule=value)
            self.refused(BadArgument, "value", value, is_prize_move, value, "z", None)
            self.refused(BadArgument, "value", value, lambda rule: is_prize_move(value=None, person="a", rule=rule), value)
            self.refused(BadArgument, "value", value, shows_prize, value, "z", None)
            self.refused(BadArgument, "value", value, shows_prize, paper=[], person="a", rule=value)

    def test_person(self):
        for value in ODD + ["d"]:
            for call in OF_PERSON:
                self.refused(NotThere, "word", value, call, self.rule, value)
                self.refused(NotThere, "word", value, call, person=value, rule=self.rule)
            for call in (sure_ahead, may_be_ahead, is_prize_move, shows_prize):
                self.refused(NotThere, "word", value, call, self.rule, value, None)

    def test_score(self):
        scores = [(-1, 1), (5, 1), (1, 2), (2, 2), (0, 2), (1, -1), (True, 1), (1, True), (1.0, 1), ["1", 1], [1, 1], (1, 1, 1), (1,), 1]
        for value in ODD + scores:
            for call in (sure_ahead, may_be_ahead):
                self.refused(BadArgument, "value", value, call, self.rule, "a", value)
                self.refused(BadArgument, "value", value, call, score=value, rule=self.rule, person="a")
        alone = Rule(self.crowd, reads=[("a", "b")], lists=[["a"], ["b"], ["c"]])
        for call in (sure_ahead, may_be_ahead):
            self.assertEqual(call(alone, "b", (0, 1)), [])
            for value in [(0, 1), None]:
                self.refused(BadArgument, "value", value, call, alone, "a", value)
        half = self.rule.changed(gather="mean")
        self.assertEqual(sure_ahead(half, "b", (1, 2)), [])
        self.refused(BadArgument, "value", (3, 1), sure_ahead, half, "b", (3, 1))

    def test_each_score_that_can_be_had(self):
        for rule in small_rules(60, 62):
            for person in rule.crowd:
                for score in values(rule, person):
                    self.assertLessEqual(set(sure_ahead(rule, person, score)), set(may_be_ahead(rule, person, score)))

    def test_by_name(self):
        for call in OF_PERSON:
            self.assertEqual(call(person="a", rule=self.rule), call(self.rule, "a"))
        self.assertEqual(hanging(rule=self.rule), ["a", "b", "c"])
        for call in (sure_ahead, may_be_ahead):
            self.assertEqual(call(score=(0, 1), person="b", rule=self.rule), call(self.rule, "b", (0, 1)))

    def test_told_lists_belong_to_the_caller(self):
        rule = self.rule.changed(prizes=0)
        prize_paper(rule, "a")[0][2].append("x")
        hanging(self.rule).clear()
        may_be_ahead(rule, "a", (0, 1)).clear()
        self.assertEqual(prize_paper(rule, "a")[0], ((0, 1), [], []))
        self.assertEqual((len(hanging(self.rule)), len(may_be_ahead(rule, "a", (0, 1)))), (3, 2))


if __name__ == "__main__":
    unittest.main()
