"""Promises 1 (f) and 19: a mark more, a reader more, and missing marks."""

import itertools
import random
import unittest
from fractions import Fraction

from ownmarks.crowds import Crowd
from ownmarks.errors import BadArgument, BadMark, BadPair, BadRule
from ownmarks.more import against_missing, harms, is_harm, least_harmless, mark_more, with_read
from ownmarks.pages import Page
from ownmarks.rules import Rule
from tests.helping import (GATHERED, ODD, TURNS, Alike, RefusingCase, all_marks, all_pages, calls_in, crowd_of, multisets, odd_without,
                           plain_gathered, plain_ranks, plain_values, some_lists, some_page, some_rule)

NO_PAIRS = odd_without() + [("a", "d"), ("a", "a"), ("a", "b", "c"), ["a", "b"], "ab", ("a",), (Alike(), "b"), ("a", Alike())]


def unread(rule):
    return [pair for pair in rule.crowd.pairs() if pair not in rule.reads]


def tried_harms(rule, pair):
    """The marks with which reading the pair, too, harms, by all full pages."""
    more = Rule(rule.crowd, reads=rule.reads + [pair], gather=rule.gather, trim=rule.trim, lists=rule.lists)
    told = set()
    for page in all_pages(rule.crowd):
        if page[pair] not in told and plain_ranks(more, page)[pair[1]] > plain_ranks(rule, page)[pair[1]]:
            told.add(page[pair])
    return told


def plain_harms(rule, pair, mark):
    """Whether reading the pair harms with a mark, by all marks of the readers of the one marked and all scores of each rival."""
    marked = pair[1]
    rivals = [member for member in rule.list_of(marked) if member != marked]
    for marks in multisets(rule.crowd.most, len(rule.readers(marked))):
        high = plain_gathered(rule.gather, rule.trim, marks)
        low = plain_gathered(rule.gather, rule.trim, marks + (mark,))
        for rival in rivals if low < high else []:
            earlier = rule.crowd.place(marked) < rule.crowd.place(rival)
            if any(low < worth <= high if earlier else low <= worth < high for worth in plain_values(rule, rival)):
                return True
    return False


def rules_with_unread_pairs(many, seed, sizes, most_trim=0):
    """Rules by lot that leave some pairs unread, of each gather in turn."""
    chance = random.Random(seed)
    gathers = [one for one in GATHERED if one[1] <= most_trim]
    told = []
    while len(told) < many:
        people, most = sizes[len(told) % len(sizes)]
        crowd = crowd_of(people, most)
        gather, trim = chance.choice(gathers)
        reads = [pair for pair in crowd.pairs() if chance.randrange(4)]
        try:
            rule = Rule(crowd, reads=reads, gather=gather, trim=trim, lists=some_lists(crowd.people, chance))
        except BadRule:
            continue
        if unread(rule):
            told.append(rule)
    return told


class MarkMoreTest(unittest.TestCase):
    def test_ordinary(self):
        rule = Rule(crowd_of(3, 2))
        page = Page.filled(rule.crowd, 1)
        self.assertEqual(mark_more(rule, page, ("a", "c")), (3, 1))
        self.assertEqual(mark_more(rule, page, ("a", "b")), (2, 1))
        self.assertEqual(mark_more(rule.changed(turn="placed"), page, ("a", "b")), (2, 1))
        self.assertEqual(mark_more(rule.changed(lists=[["a"], ["b", "c"]]), page.with_mark(("c", "a"), None), ("b", "a")), (1, 1))
        self.assertEqual(mark_more(pair=("a", "c"), rule=rule, page=page), (3, 1))

    def test_each_turn_and_gather(self):
        chance = random.Random(191)
        for at in range(400):
            turn = TURNS[at % 3]
            rule = some_rule(crowd_of(chance.randint(2, 5), chance.randint(1, 4)), chance, turn)
            page = some_page(rule.crowd, chance, chance.choice([0, 4]))
            for pair in rule.crowd.pairs():
                if page[pair] is not None and page[pair] < rule.crowd.most:
                    told = mark_more(rule, page, pair)
                    other = page.with_mark(pair, page[pair] + 1)
                    self.assertEqual(told, (plain_ranks(rule, page)[pair[1]], plain_ranks(rule, other)[pair[1]]))
                    self.assertIs(type(told), tuple)
                    if page.is_full:
                        self.assertLessEqual(told[1], told[0])

    def test_never_worse_on_all_full_pages(self):
        for turn in TURNS:
            for gather in ("sum", "mean", "median", "least", "greatest") if turn == "plain" else ("sum", "mean"):
                rule = Rule(crowd_of(3, 2), turn=turn, gather=gather)
                for page in all_pages(rule.crowd)[::3]:
                    for pair in rule.crowd.pairs()[::2]:
                        if page[pair] < 2:
                            before, behind = mark_more(rule, page, pair)
                            self.assertLessEqual(behind, before)

    def test_great(self):
        chance = random.Random(192)
        for gather, trim in GATHERED:
            rule = Rule(crowd_of(8, 10), gather=gather, trim=trim)
            page = some_page(rule.crowd, chance, 0)
            for pair in rule.crowd.pairs()[::5]:
                if page[pair] < 10:
                    before, behind = mark_more(rule, page, pair)
                    self.assertLessEqual(behind, before)


class WithReadTest(unittest.TestCase):
    def test_all_unread_pairs(self):
        for rule in rules_with_unread_pairs(60, 193, [(2, 1), (3, 2), (4, 3), (5, 2), (6, 10)], 1):
            reads = rule.reads
            for pair in unread(rule):
                told = with_read(rule, pair)
                self.assertEqual(told.reads, [one for one in rule.crowd.pairs() if one == pair or one in reads])
                self.assertEqual(told.changed(reads=reads), rule)
                self.assertEqual(rule.reads, reads)


class HarmsTest(unittest.TestCase):
    def check_page(self, rule, pair, mark, harmed):
        told = harms(rule, pair, mark)
        if not harmed:
            self.assertIs(told, None)
            return
        self.assertTrue(told.is_full and told.crowd == rule.crowd and told[pair] == mark)
        more = rule.changed(reads=rule.reads + [pair])
        self.assertGreater(plain_ranks(more, told)[pair[1]], plain_ranks(rule, told)[pair[1]])
        self.assertIs(is_harm(rule, pair, mark, told), True)
        self.assertEqual(harms(rule, pair, mark), told)

    def check(self, rule, pair, harming):
        most = rule.crowd.most
        self.assertNotIn(most, harming)
        self.assertEqual(sorted(harming), list(range(len(harming))))
        for mark in range(most + 1):
            self.check_page(rule, pair, mark, mark in harming)
        self.assertEqual(least_harmless(rule, pair), len(harming))

    def test_ordinary(self):
        crowd = crowd_of(4, 3)
        rule = Rule(crowd, gather="mean", lists=[["a", "b"], ["c"], ["d"]], reads=[("c", "a"), ("d", "b")])
        self.assertIs(harms(rule, ("d", "a"), 3), None)
        self.check(rule, ("d", "a"), {0, 1, 2})
        # The later one, with a 3 that a mark of 2 makes 5/2, is ahead of the others' 2 as before.
        self.check(rule, ("c", "b"), {0, 1})
        self.check(rule.changed(gather="sum"), ("d", "a"), set())
        self.check(rule.changed(gather="greatest"), ("d", "a"), set())
        self.check(rule.changed(gather="least"), ("d", "a"), {0, 1, 2})
        self.check(rule.changed(gather="least"), ("c", "b"), {0, 1, 2})
        self.check(rule, ("a", "c"), set())
        self.check(rule, ("b", "d"), set())

    def test_greatest_mark_one(self):
        nobody, both, first = (set(), set()), ({0}, {0}), ({0}, set())
        for gather, harming in [("sum", nobody), ("mean", first), ("median", first), ("least", both), ("greatest", nobody)]:
            rule = Rule(crowd_of(4, 1), gather=gather, lists=[["a", "b"], ["c"], ["d"]], reads=[("c", "a"), ("d", "b")])
            for pair, marks in zip([("d", "a"), ("c", "b")], harming):
                self.check(rule, pair, marks)
                self.assertEqual(tried_harms(rule, pair), marks)

    def test_all_full_pages(self):
        sizes = [(2, 1), (2, 3), (3, 1), (3, 2), (3, 1), (3, 2)]
        for rule in rules_with_unread_pairs(60, 194, sizes):
            for pair in unread(rule):
                self.check(rule, pair, tried_harms(rule, pair))
        for rule in rules_with_unread_pairs(6, 195, [(4, 1)], 1):
            for pair in unread(rule)[:2]:
                self.check(rule, pair, tried_harms(rule, pair))

    def test_trim_that_comes_to_leave_out_others(self):
        # Three readers of a, of whom the middle one counts; with the fourth, the middle two.
        reads = [(one, "a") for one in "bcd"] + [(one, "b") for one in "acd"]
        rule = Rule(crowd_of(5, 1), gather="trim", trim=1, lists=[["a", "b"], ["c"], ["d"], ["e"]], reads=reads)
        for pair in [("e", "a"), ("e", "b")]:
            self.check(rule, pair, {mark for mark in (0, 1) if plain_harms(rule, pair, mark)})
        self.assertEqual(least_harmless(rule, ("e", "a")), 1)

    def test_all_marks_of_the_readers(self):
        sizes = [(3, 4), (4, 3), (4, 10), (5, 5), (6, 3), (6, 2), (7, 2)]
        for rule in rules_with_unread_pairs(70, 196, sizes, 2):
            for pair in unread(rule)[:2]:
                marks = [mark for mark in all_marks(rule.crowd) if plain_harms(rule, pair, mark)]
                self.check(rule, pair, set(marks))

    def test_six_to_eight_people_with_the_greatest_mark_ten(self):
        chance = random.Random(197)
        for many in (6, 7, 8):
            crowd = crowd_of(many, 10)
            for gather, trim in GATHERED:
                # All readers but one of one person: it has two less than there are people, more than twice trim or not.
                left = chance.choice(crowd.pairs())
                reads = [pair for pair in crowd.pairs() if pair != left]
                if many - 2 > 2 * trim:
                    rule = Rule(crowd, gather=gather, trim=trim, reads=reads)
                    threshold = least_harmless(rule, left)
                    for mark in {0, max(threshold - 1, 0), threshold, 10}:
                        self.check_page(rule, left, mark, mark < threshold)
                        self.assertEqual(plain_harms(rule, left, mark), mark < threshold)
                rule = some_rule(crowd, chance, gathers=[(gather, trim)]) if many == 8 or trim < 3 else None
                for pair in unread(rule)[:4] if rule else []:
                    threshold = least_harmless(rule, pair)
                    for mark in all_marks(crowd):
                        self.check_page(rule, pair, mark, mark < threshold)
                    if len(rule.readers(pair[1])) < 5:
                        for mark in all_marks(crowd):
                            self.assertEqual(plain_harms(rule, pair, mark), mark < threshold)


class IsHarmTest(unittest.TestCase):
    def test_all_pages(self):
        chance = random.Random(198)
        for rule in rules_with_unread_pairs(60, 199, [(2, 2), (3, 2), (4, 3), (5, 2)], 1):
            for pair in unread(rule)[:2]:
                more = rule.changed(reads=rule.reads + [pair])
                for _ in range(20):
                    page = some_page(rule.crowd, chance, 0)
                    told = plain_ranks(more, page)[pair[1]] > plain_ranks(rule, page)[pair[1]]
                    for mark in all_marks(rule.crowd):
                        self.assertIs(is_harm(rule, pair, mark, page), told and page[pair] == mark)

    def test_any_value(self):
        rule = Rule(crowd_of(3, 2), gather="least", reads=[("a", "b"), ("b", "c"), ("c", "a")])
        good = harms(rule, ("b", "a"), 1)
        self.assertIs(is_harm(value=good, mark=1, pair=("b", "a"), rule=rule), True)
        self.assertIs(is_harm(rule, ("b", "a"), 0, good), False)
        wrong = ODD + [good.with_mark(("a", "c"), None), good.with_mark(("b", "a"), None), good.marks, Page(crowd_of(3, 3), good.marks), rule,
                       Page.filled(crowd_of(2, 2), 0), [good], (good, good)]
        for value in wrong:
            self.assertIs(is_harm(rule, ("b", "a"), 1, value), False)


class AgainstMissingTest(unittest.TestCase):
    def test_ordinary(self):
        rule = Rule(crowd_of(3, 2), gather="mean")
        page = Page.filled(rule.crowd, 1)
        self.assertEqual(against_missing(rule, page, ("a", "c")), {0: 0, 1: 0, 2: -2})
        self.assertEqual(against_missing(rule, page, ("b", "a")), {0: 2, 1: 0, 2: 0})
        self.assertEqual(list(against_missing(rule, page.with_mark(("b", "a"), None), ("b", "a")).items()), [(0, 2), (1, 0), (2, 0)])
        self.assertEqual(against_missing(pair=("b", "a"), page=page, rule=rule.changed(lists=[["a"], ["b", "c"]])), {0: 0, 1: 0, 2: 0})

    def test_each_turn_and_gather(self):
        chance = random.Random(200)
        for at in range(300):
            rule = some_rule(crowd_of(chance.randint(2, 5), chance.randint(1, 4)), chance, TURNS[at % 3])
            page = some_page(rule.crowd, chance, chance.choice([0, 3]))
            for pair in rule.crowd.pairs()[::2]:
                missing = plain_ranks(rule, page.with_mark(pair, None))[pair[1]]
                told = against_missing(rule, page, pair)
                self.assertIs(type(told), dict)
                self.assertEqual(list(told), list(all_marks(rule.crowd)))
                for mark in all_marks(rule.crowd):
                    self.assertEqual(told[mark], plain_ranks(rule, page.with_mark(pair, mark))[pair[1]] - missing)

    def check(self, rule, page, pair):
        missing = plain_ranks(rule, page.with_mark(pair, None))[pair[1]]
        told = [(mark, plain_ranks(rule, page.with_mark(pair, mark))[pair[1]] - missing) for mark in all_marks(rule.crowd)]
        self.assertEqual(list(against_missing(rule, page, pair).items()), told)
        return {places for _, places in told}

    def test_many_pairs_of_one_page(self):
        crowd = Crowd(["ann", "bo", "cy", "di", "ed"], 3)
        page = Page(crowd, {pair: at % 4 for at, pair in enumerate(crowd.pairs())})
        for gather, last in [("mean", -1), ("sum", -1), ("median", 0)]:
            rule = Rule(crowd, reads=crowd.pairs(), gather=gather)
            self.assertEqual(against_missing(rule, page, ("ann", "bo")), {0: 0, 1: 0, 2: 0, 3: last})
            for pair in crowd.pairs():
                self.check(rule, page, pair)

    def test_great_crowds(self):
        chance = random.Random(210)
        found = set()
        for turn in TURNS:
            for gather, trim in GATHERED if turn == "plain" else [("sum", 0), ("mean", 0)]:
                for missing in (0, 2, 5):
                    rule = some_rule(crowd_of(8 if trim == 3 else chance.randint(6, 8), 10), chance, turn, [(gather, trim)])
                    page = some_page(rule.crowd, chance, missing)
                    for pair in chance.sample(rule.crowd.pairs(), 3):
                        found |= self.check(rule, page, pair)
        self.assertTrue({-1, 0, 1} < found)

    def test_rows_that_say_nothing_else(self):
        # The only mark of a row is missing; nobody says anything; the pair is not read, but its row is turned whole.
        for turn in TURNS:
            rule = Rule(crowd_of(3, 2), turn=turn, lists=[["a", "b"], ["c"]], reads=[("c", "a"), ("b", "a"), ("a", "b")])
            nothing = Page.filled(rule.crowd, None)
            for page in (nothing, nothing.with_mark(("c", "a"), 1), nothing.with_mark(("c", "b"), 2), Page.filled(rule.crowd, 1)):
                for pair in rule.crowd.pairs():
                    self.check(rule, page, pair)
        rule = Rule(crowd_of(3, 2), turn="placed", lists=[["a", "b"], ["c"]], reads=[("c", "a"), ("b", "a"), ("a", "b")])
        self.assertEqual(against_missing(rule, Page.filled(rule.crowd, 1), ("c", "b")), {0: 0, 1: 0, 2: 0})
        self.assertEqual(against_missing(rule, Page.filled(rule.crowd, 1).with_mark(("b", "a"), None), ("c", "b")), {0: 1, 1: 1, 2: 0})

    def test_few_steps(self):
        # With a page made anew for each mark it was 650, 36000 and 520000.
        for people, most, limit in [(2, 1, 250), (5, 3, 6000), (8, 10, 40000)]:
            for turn in TURNS:
                rule = Rule(crowd_of(people, most), turn=turn, gather="mean")
                page = Page(rule.crowd, {pair: at % (most + 1) for at, pair in enumerate(rule.crowd.pairs())})
                self.assertLess(sum(calls_in(against_missing, rule, page, pair) for pair in rule.crowd.pairs()), limit, (people, turn))

    def test_nothing_is_kept(self):
        rule = Rule(crowd_of(4, 3), turn="centred", gather="mean")
        page = Page.filled(rule.crowd, 1)
        before = [repr(vars(one)) for one in (rule, page, rule.crowd)]
        steps = [calls_in(against_missing, rule, page, ("a", "b")) for _ in range(3)]
        self.assertEqual(steps, steps[:1] * 3)
        self.assertEqual([repr(vars(one)) for one in (rule, page, rule.crowd)], before)

    def test_missing_as_if_not_read(self):
        chance = random.Random(201)
        found = 0
        for _ in range(200):
            rule = some_rule(crowd_of(chance.randint(2, 8), chance.randint(1, 10)), chance)
            pair = chance.choice(rule.reads or [None])
            try:
                fewer = rule.changed(reads=[one for one in rule.reads if one != pair])
            except BadRule:
                continue
            if pair is not None:
                found += 1
                page = some_page(rule.crowd, chance, 0)
                before = plain_ranks(fewer, page)[pair[1]]
                for mark, places in against_missing(rule, page, pair).items():
                    self.assertEqual(plain_ranks(rule, page.with_mark(pair, mark))[pair[1]], before + places)
        self.assertGreater(found, 100)


class WrongArgumentsTest(RefusingCase):
    def setUp(self):
        self.crowd = crowd_of(3, 2)
        self.rule = Rule(self.crowd, reads=[("a", "b"), ("b", "c"), ("c", "a")])
        self.page = Page.filled(self.crowd, 1)

    def test_rule(self):
        turned = [Rule(self.crowd, turn=turn, gather=gather) for turn in ("centred", "placed") for gather in ("sum", "mean")]
        for value in ODD + [self.crowd, self.page]:
            for call in (mark_more, against_missing):
                self.refused(BadArgument, "value", value, call, value, None, None)
                self.refused(BadArgument, "value", value, call, pair=("a", "b"), page=self.page, rule=value)
        for value in ODD + [self.crowd, self.page] + turned:
            for call in (with_read, least_harmless):
                self.refused(BadArgument, "value", value, call, value, None)
                self.refused(BadArgument, "value", value, call, pair=("b", "a"), rule=value)
            self.refused(BadArgument, "value", value, harms, value, None, None)
            self.refused(BadArgument, "value", value, harms, mark=1, pair=("b", "a"), rule=value)
            self.refused(BadArgument, "value", value, is_harm, value, None, None, None)
        for rule in turned:
            self.assertEqual(len(mark_more(rule, self.page, ("a", "b"))), 2)
            self.assertEqual(len(against_missing(rule, self.page, ("a", "b"))), 3)

    def test_page(self):
        pages = [Page.filled(crowd_of(3, 3), 1), Page.filled(crowd_of(4, 2), 1), Page.filled(Crowd(["b", "a", "c"], 2), 1)]
        for value in ODD + pages + [self.rule, self.page.marks]:
            for call in (mark_more, against_missing):
                self.refused(BadArgument, "value", value, call, self.rule, value, None)
                self.refused(BadArgument, "value", value, call, pair=("a", "b"), page=value, rule=self.rule)

    def test_pair(self):
        for value in NO_PAIRS:
            for call in (mark_more, against_missing):
                self.refused(BadPair, "value", value, call, self.rule, self.page, value)
                self.refused(BadPair, "value", value, call, pair=value, rule=self.rule, page=self.page)
        for value in NO_PAIRS + self.rule.reads:
            for call in (with_read, least_harmless):
                self.refused(BadPair, "value", value, call, self.rule, value)
                self.refused(BadPair, "value", value, call, pair=value, rule=self.rule)
            self.refused(BadPair, "value", value, harms, self.rule, value, None)
            self.refused(BadPair, "value", value, harms, mark=1, pair=value, rule=self.rule)
            self.refused(BadPair, "value", value, is_harm, self.rule, value, None, None)
            self.refused(BadPair, "value", value, is_harm, value=self.page, mark=-1, pair=value, rule=self.rule)

    def test_mark(self):
        page = self.page.with_mark(("a", "b"), None).with_mark(("a", "c"), 2)
        self.refused(BadMark, "value", None, mark_more, self.rule, page, ("a", "b"))
        self.refused(BadMark, "value", 2, mark_more, pair=("a", "c"), page=page, rule=self.rule)
        for value in odd_without() + [3, -1, True, "1", (1,), 1.0, Fraction(1), None]:
            self.refused(BadMark, "value", value, harms, self.rule, ("b", "a"), value)
            self.refused(BadMark, "value", value, harms, mark=value, pair=("b", "a"), rule=self.rule)
            self.refused(BadMark, "value", value, is_harm, self.rule, ("b", "a"), value, None)
            self.refused(BadMark, "value", value, is_harm, value=self.page, mark=value, pair=("b", "a"), rule=self.rule)

    def test_by_name(self):
        self.assertEqual(with_read(pair=("b", "a"), rule=self.rule), with_read(self.rule, ("b", "a")))
        self.assertEqual(harms(mark=0, pair=("b", "a"), rule=self.rule.changed(gather="mean")),
                         harms(self.rule.changed(gather="mean"), ("b", "a"), 0))
        self.assertEqual(least_harmless(pair=("b", "a"), rule=self.rule), least_harmless(self.rule, ("b", "a")))

    def test_told_dicts_belong_to_the_caller(self):
        against_missing(self.rule, self.page, ("a", "b")).clear()
        self.assertEqual(len(against_missing(self.rule, self.page, ("a", "b"))), 3)
        self.assertEqual(self.page, Page.filled(self.crowd, 1))


if __name__ == "__main__":
    unittest.main()
