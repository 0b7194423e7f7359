"""Promises 1 (a), 1 (f) and 20: rounds that go on with weights."""

import itertools
import random
import unittest
from fractions import Fraction

from ownmarks.crowds import Crowd
from ownmarks.errors import BadArgument, BadNumber, BadPair, NotThere, TooMany
from ownmarks.pages import Page
from ownmarks.rounds import Rounds
from ownmarks.rules import Rule
from tests.helping import (ODD, TURNS, Alike, RefusingCase, all_pages, calls_in, crowd_of, odd_without, plain_ranks, plain_turned, some_page,
                           some_rule)

FALLING = [3, 2, 1, 0, 0, 0, 0, 0]
EVEN = [1] * 8
NO_WEIGHTS = odd_without() + [[1] * 7, [1] * 9, (1,) * 7, [1] * 7 + [10], [-1] + [1] * 7, [True] + [1] * 7, [1] * 7 + [False], [1.0] * 8,
                              ["1"] * 8, "11111111", {at: 1 for at in range(8)}, range(8), [None] * 8, [[1] * 8], iter([1] * 8), [Alike()] * 8]
NO_TRIED = odd_without(11) + [0, 101, -1, 1.0, "1", (1,), 10 ** 30, True]
NO_TOLD = odd_without(11) + [0, 1000001, -1, 1.0, "1", (1,), 10 ** 30, True]


def some_weights(chance):
    kind = chance.randrange(4)
    if kind == 0:
        return [chance.choice([0, 1])] * chance.randint(1, 7) + [chance.randrange(10) for _ in range(8)]
    return sorted([chance.randrange(10) for _ in range(8)], reverse=kind > 1)


def some_sum_rule(crowd, chance, turn):
    return some_rule(crowd, chance, turn, [("sum", 0)])


def some_rounds(many, seed, people, most):
    """Rules of sums with weights by lot, of each turn in turn."""
    chance = random.Random(seed)
    for at in range(many):
        rule = some_sum_rule(crowd_of(chance.choice(people), chance.choice(most)), chance, TURNS[at % 3])
        yield rule, some_weights(chance)[:8]


def plain_round(rule, page, often):
    """The ranks of a round in which the turned row of each person is added so often."""
    turned = {person: plain_turned(rule.turn, page.row(person)) for person in rule.crowd}
    told = {}
    for members in rule.lists:
        scores = {}
        for member in members:
            said = [often[marker] * turned[marker][member] for marker, marked in rule.reads
                    if marked == member and turned[marker][member] is not None]
            scores[member] = sum(said, Fraction(0))
        for member in members:
            ahead = [other for other in members if scores[other] > scores[member] or
                     scores[other] == scores[member] and rule.crowd.place(other) < rule.crowd.place(member)]
            told[member] = 1 + len(ahead)
    return {person: told[person] for person in rule.crowd}


def plain_rounds(rule, weights, page, many):
    """The ranks of the first rounds, one round after the other."""
    told = [plain_round(rule, page, {person: 1 for person in rule.crowd})]
    while len(told) < many:
        told.append(plain_round(rule, page, {person: weights[rank - 1] for person, rank in told[-1].items()}))
    return told


def plain_rank_reads(rule, person):
    members = rule.list_of(person)
    if len(members) == 1:
        return set()
    readers = {reader for member in members for reader in rule.readers(member)}
    if rule.turn == "plain":
        return {pair for pair in rule.reads if pair[1] in members}
    return {pair for pair in rule.crowd.pairs() if pair[0] in readers}


def plain_may_read(rule, weights, person, number):
    """What the rank of somebody may read in a round, by the words of promise 20, round by round."""
    told = {one: plain_rank_reads(rule, one) for one in rule.crowd}
    for _ in range(number - 1):
        later = {}
        for one in rule.crowd:
            later[one] = plain_rank_reads(rule, one)
            members = rule.list_of(one)
            for member in members if len(members) > 1 else []:
                for reader in rule.readers(member):
                    many = len(rule.list_of(reader))
                    if many >= 2 and len(set(weights[:many])) > 1:
                        later[one] = later[one] | told[reader]
        if later == told:
            break
        told = later
    return [pair for pair in rule.crowd.pairs() if pair in told[person]]


class ToldTest(unittest.TestCase):
    def test_ordinary(self):
        crowd = crowd_of(3, 2)
        rule = Rule(crowd)
        rounds = Rounds(rule, FALLING)
        self.assertEqual((rounds.rule, rounds.weights), (rule, FALLING))
        page = Page.filled(crowd, 0).with_row("a", {"b": 0, "c": 2}).with_row("c", {"a": 0, "b": 1})
        # In round 1 c is ahead of b; then its row counts three times, that of a, the last one, only once.
        self.assertEqual(rounds(page), ([{"a": 3, "b": 2, "c": 1}], [{"a": 3, "b": 1, "c": 2}]))
        self.assertEqual(rounds(page=page), rounds(page))
        self.assertIs(rounds.rests(page), True)
        self.assertEqual(rounds.ranks_in(page, 1), {"a": 3, "b": 2, "c": 1})
        self.assertEqual(rounds.ranks_in(number=1000000, page=page), {"a": 3, "b": 1, "c": 2})

    def test_lists_of_one_and_even_weights(self):
        rule = Rule(crowd_of(3, 2), lists=[["a"], ["b"], ["c"]])
        page = Page.filled(rule.crowd, 1)
        self.assertEqual(Rounds(rule, FALLING)(page), ([], [{"a": 1, "b": 1, "c": 1}]))
        self.assertEqual(Rounds(Rule(Crowd(["a"], 1)), FALLING)(Page.filled(Crowd(["a"], 1), 0)), ([], [{"a": 1}]))
        chance = random.Random(202)
        for at in range(20):
            rule = some_sum_rule(crowd_of(5, 3), chance, TURNS[at % 3])
            page = some_page(rule.crowd, chance, 3)
            self.assertEqual(Rounds(rule, EVEN)(page), ([], [plain_ranks(rule, page)]))

    def test_somebody_in_a_list_of_one_has_rank_one(self):
        # The rows of c and d alone tell who of a and b is ahead; theirs count as the first weight tells.
        rule = Rule(crowd_of(4, 9), lists=[["a", "b"], ["c"], ["d"]], reads=[("c", "a"), ("d", "b"), ("a", "b")])
        page = Page.filled(rule.crowd, 0).with_mark(("c", "a"), 5).with_mark(("d", "b"), 4).with_mark(("a", "b"), 9)
        for first, second, told in [(1, 0, [1, 2]), (1, 1, [2, 1]), (0, 0, [1, 2]), (2, 9, [2, 1])]:
            found = Rounds(rule, [first, second] + [0] * 6).ranks_in(page, 3)
            self.assertEqual([found["c"], found["d"]], [1, 1])
            self.assertEqual(found, plain_rounds(rule, [first, second] + [0] * 6, page, 3)[-1])

    def check(self, rule, weights, page):
        rounds = Rounds(rule, weights)
        before, around = rounds(page)
        told = before + around
        self.assertEqual((type(before), type(around)), (list, list))
        self.assertEqual(told, plain_rounds(rule, weights, page, len(told)))
        self.assertGreater(len(around), 0)
        # As short as can be: all unlike, and the next one is the first that goes round.
        self.assertTrue(all(one != other for one, other in itertools.combinations(told, 2)))
        self.assertEqual(plain_rounds(rule, weights, page, len(told) + 1)[-1], around[0])
        self.assertTrue(all(list(ranks) == rule.crowd.people for ranks in told))
        self.assertIs(rounds.rests(page), len(around) == 1)
        for number in list(range(1, len(told) + 5)) + [999, 1000, 999999, 1000000]:
            at = number - 1 if number <= len(told) else len(before) + (number - 1 - len(before)) % len(around)
            self.assertEqual(rounds.ranks_in(page, number), told[at])
        self.assertEqual(rounds(page), (before, around))
        return len(before), len(around)

    def test_adding_the_rows(self):
        chance = random.Random(203)
        found = []
        for rule, weights in some_rounds(300, 204, range(1, 9), [1, 2, 5, 10]):
            for missing in (0, 3):
                page = some_page(rule.crowd, chance, missing)
                found.append(self.check(rule, weights, page))
                self.assertEqual(Rounds(rule, tuple(weights))(page), Rounds(rule, weights)(page))
        # Some go round by more than one round, and some come there late.
        self.assertGreater(max(around for _, around in found), 1)
        self.assertGreater(max(before for before, _ in found), 2)

    def test_ranks_far_beyond(self):
        rule = Rule(crowd_of(2, 1), turn="plain")
        # Whoever is behind counts: the one marks the other back and forth.
        rounds = Rounds(rule, [0, 1, 0, 0, 0, 0, 0, 0])
        page = Page.filled(rule.crowd, 1)
        before, around = rounds(page)
        self.assertEqual(before + around, plain_rounds(rule, [0, 1] + [0] * 6, page, len(before + around)))
        self.assertEqual(rounds.ranks_in(page, 1000000), plain_rounds(rule, [0, 1] + [0] * 6, page, 1000)[-1])

    def test_lists_belong_to_the_caller(self):
        given = list(FALLING)
        rule = Rule(crowd_of(3, 2))
        rounds = Rounds(rule, given)
        given[0] = 9
        rounds.weights.append(1)
        rounds.weights[1] = 7
        self.assertEqual(rounds.weights, FALLING)
        self.assertEqual(Rounds(rule, tuple(FALLING)).weights, FALLING)
        self.assertIs(type(Rounds(rule, tuple(FALLING)).weights), list)
        page = Page.filled(rule.crowd, 1)
        before, around = rounds(page)
        around[0]["a"] = 5
        before.append({})
        around.clear()
        rounds.may_read("a", 1).clear()
        rounds.ranks_in(page, 1).clear()
        # Whoever is ahead counts most for the others: the ranks turn round each time.
        self.assertEqual(rounds(page), ([], [{"a": 1, "b": 2, "c": 3}, {"a": 3, "b": 2, "c": 1}]))
        self.assertIs(rounds.rests(page), False)
        self.assertEqual(len(rounds.may_read("a", 1)), 6)
        self.assertEqual(len(rounds.ranks_in(page, 1)), 3)
        self.assertEqual(Rounds(weights=FALLING, rule=rule).rule, rule)


class MayReadTest(unittest.TestCase):
    def test_ordinary(self):
        # a and b are marked by c and d, these by e and f, these by nobody of another list.
        rule = Rule(crowd_of(6, 2), lists=[["a", "b"], ["c", "d"], ["e", "f"]],
                    reads=[("c", "a"), ("c", "b"), ("e", "c"), ("f", "d"), ("f", "e"), ("e", "f"), ("a", "f")])
        rounds = Rounds(rule, FALLING)
        self.assertEqual(rounds.may_read("a", 1), [("c", "a"), ("c", "b")])
        self.assertEqual(rounds.may_read("a", 2), [("c", "a"), ("c", "b"), ("e", "c"), ("f", "d")])
        self.assertEqual(rounds.may_read("b", 3), rule.reads)
        self.assertEqual(rounds.may_read(number=100, person="b"), rule.reads)
        self.assertEqual([rounds.stands_apart("a", number) for number in (1, 2, 3, 4)], [True, True, False, False])
        self.assertIs(rounds.stands_apart(number=3, person="b"), True)
        # Where both ranks count as much, they tell nothing.
        self.assertEqual(Rounds(rule, [2, 2, 1, 0, 0, 0, 0, 0]).may_read("a", 9), [("c", "a"), ("c", "b")])

    def test_lists_of_one(self):
        rule = Rule(crowd_of(3, 2), lists=[["a"], ["b", "c"]])
        rounds = Rounds(rule, FALLING)
        self.assertEqual([rounds.may_read("a", number) for number in (1, 2, 50)], [[], [], []])
        self.assertIs(rounds.stands_apart("a", 50), True)
        # Who is alone has the same rank in each round: no more is read through it.
        rule = Rule(crowd_of(3, 2), lists=[["a"], ["b", "c"]], reads=[("a", "b"), ("a", "c"), ("b", "a")])
        self.assertEqual(Rounds(rule, FALLING).may_read("b", 7), [("a", "b"), ("a", "c")])

    def test_whole_rows(self):
        rule = Rule(crowd_of(4, 2), turn="centred", lists=[["a", "b"], ["c", "d"]], reads=[("c", "a"), ("d", "b"), ("a", "c"), ("a", "d")])
        rounds = Rounds(rule, FALLING)
        self.assertEqual(rounds.may_read("a", 1), [pair for pair in rule.crowd.pairs() if pair[0] in "cd"])
        self.assertEqual(rounds.may_read("a", 2), [pair for pair in rule.crowd.pairs() if pair[0] in "acd"])

    def test_against_the_words(self):
        for rule, weights in some_rounds(150, 205, range(1, 9), [2]):
            rounds = Rounds(rule, weights)
            for person in rule.crowd:
                for number in (1, 2, 3, 4, 5, 8, 100):
                    told = plain_may_read(rule, weights, person, number)
                    self.assertEqual(rounds.may_read(person, number), told)
                    self.assertIs(rounds.stands_apart(person, number), all(pair[0] != person for pair in told))

    def test_every_number(self):
        chance = random.Random(206)
        rule = Rule(crowd_of(8, 1), lists=[["a", "b"], ["c", "d"], ["e", "f"], ["g", "h"]],
                    reads=[("c", "a"), ("c", "b"), ("e", "c"), ("e", "d"), ("g", "e"), ("g", "f"), ("h", "g"), ("a", "h")])
        for weights in (FALLING, some_weights(chance)[:8]):
            told = [Rounds(rule, weights).may_read("a", number) for number in range(1, 101)]
            self.assertEqual(told, [plain_may_read(rule, weights, "a", number) for number in range(1, 101)])

    def test_the_rank_stays_when_other_marks_change(self):
        chance = random.Random(207)
        for rule, weights in some_rounds(120, 208, range(2, 7), [1, 3]):
            rounds = Rounds(rule, weights)
            for number in (1, 2, 3, 6):
                page = some_page(rule.crowd, chance, chance.choice([0, 4]))
                for person in rule.crowd:
                    kept = rounds.may_read(person, number)
                    marks = some_page(rule.crowd, chance, 0).marks
                    other = Page(rule.crowd, {pair: page[pair] if pair in kept else marks[pair] for pair in marks})
                    self.assertEqual(rounds.ranks_in(page, number)[person], rounds.ranks_in(other, number)[person])


class LiftTest(RefusingCase):
    def tried(self, rule, weights, number):
        """The lifts in a round, and whether a mark more harms in it, for each pair, by all full pages."""
        found = {tuple(page.marks.values()): plain_rounds(rule, weights, page, number)[-1] for page in all_pages(rule.crowd)}
        pairs = rule.crowd.pairs()
        spans, harmed = {}, {pair: False for pair in pairs}
        for marks, ranks in found.items():
            for person, rank in ranks.items():
                others = tuple(mark for pair, mark in zip(pairs, marks) if pair[0] != person)
                low, high = spans.get((person, others), (rank, rank))
                spans[person, others] = (min(low, rank), max(high, rank))
            for at, pair in enumerate(pairs):
                if marks[at] < rule.crowd.most:
                    more = found[marks[:at] + (marks[at] + 1,) + marks[at + 1:]]
                    harmed[pair] = harmed[pair] or more[pair[1]] > ranks[pair[1]]
        told = {person: max(high - low for (one, _), (low, high) in spans.items() if one == person) for person in rule.crowd}
        return told, harmed

    def check(self, rule, weights, number):
        rounds = Rounds(rule, weights)
        told, harmed = self.tried(rule, weights, number)
        for person in rule.crowd:
            self.assertEqual(rounds.lift(person, number), told[person])
            pages = rounds.lift_pages(person, number)
            self.assertEqual(pages is None, told[person] == 0)
            if pages is not None:
                page, other = pages
                self.assertTrue(page.is_full and other.is_full and page.crowd == other.crowd == rule.crowd)
                self.assertEqual({pair[0] for pair in rule.crowd.pairs() if page[pair] != other[pair]}, {person})
                best, worst = [plain_rounds(rule, weights, one, number)[-1][person] for one in pages]
                self.assertEqual(worst - best, told[person])
                self.assertEqual(rounds.lift_pages(person, number), pages)
        for pair in rule.crowd.pairs():
            pages = rounds.mark_harm(pair, number)
            self.assertEqual(pages is not None, harmed[pair])
            if pages is not None:
                page, other = pages
                self.assertTrue(page.is_full and other.is_full and page.crowd == other.crowd == rule.crowd)
                self.assertEqual([at for at in rule.crowd.pairs() if page[at] != other[at]], [pair])
                self.assertEqual(other[pair], page[pair] + 1)
                before, behind = [plain_rounds(rule, weights, one, number)[-1][pair[1]] for one in pages]
                self.assertGreater(behind, before)
        return any(harmed.values())

    def test_all_full_pages(self):
        found = []
        for number in (1, 2, 3):
            for rule, weights in some_rounds(24, 209 + number, [1, 2, 3], [1]):
                found.append((number, self.check(rule, weights, number)))
            for rule, weights in some_rounds(3, 219 + number, [3], [2]):
                found.append((number, self.check(rule, weights, number)))
        self.assertFalse(any(harmed for number, harmed in found if number == 1))
        self.assertTrue(any(harmed for number, harmed in found if number > 1))

    def test_four_people(self):
        for at, (rule, weights) in enumerate(some_rounds(3, 230, [4], [1])):
            self.check(rule, weights, at % 2 + 2)

    def test_a_mark_that_harms(self):
        # b's mark for a puts a ahead of b, and the row of b, who is behind now, counts no more.
        rule = Rule(crowd_of(3, 1), reads=[("a", "b"), ("b", "a"), ("c", "b"), ("b", "c"), ("c", "a"), ("a", "c")])
        self.assertTrue(self.check(rule, [9, 0, 0, 0, 0, 0, 0, 0], 2) or self.check(rule, [0, 9, 0, 0, 0, 0, 0, 0], 2))

    def test_as_many_pages_as_may_be(self):
        for people, most in [(4, 1), (3, 3), (2, 10), (1, 10)]:
            rule = Rule(crowd_of(people, most))
            rounds = Rounds(rule, FALLING)
            self.assertEqual(rounds.lift("a", 1), people - 1)
            self.assertEqual(rounds.lift_pages("a", 2) is None, people == 1)
            if people > 1:
                self.assertIn(rounds.mark_harm(("a", "b"), 3) is None, (True, False))

    def test_more_pages(self):
        for people, most in [(4, 2), (3, 4), (5, 1), (8, 10)]:
            rule = Rule(crowd_of(people, most))
            rounds = Rounds(rule, FALLING)
            for number in (1, 2, 100):
                for call, given in [(rounds.lift, "a"), (rounds.lift_pages, "a")] + [(rounds.mark_harm, ("a", "b"))] * (number > 1):
                    with self.assertRaises(TooMany) as caught:
                        call(given, number)
                    self.assertEqual(caught.exception.most, 4096)
            # A mark more never harms in round 1, however many pages there are.
            self.assertIs(rounds.mark_harm(("a", "b"), 1), None)

    def test_standing_apart_ahead_of_too_many_pages(self):
        lists = [["a", "b", "c", "d"], ["e", "f", "g", "h"]]
        reads = [(one, other) for one in "abcd" for other in "efgh"] + [(other, one) for one in "abcd" for other in "efgh"]
        rounds = Rounds(Rule(crowd_of(8, 10), lists=lists, reads=reads), FALLING)
        self.assertEqual((rounds.lift("a", 1), rounds.lift_pages("a", 1)), (0, None))
        with self.assertRaises(TooMany):
            rounds.lift("a", 2)
        even = Rounds(Rule(crowd_of(8, 10), lists=lists, reads=reads), EVEN)
        self.assertEqual((even.lift("h", 100), even.lift_pages("h", 100)), (0, None))


class MarkHarmTest(unittest.TestCase):
    def check(self, rule, weights, numbers):
        """For each number and pair whether a mark more harms, by the ranks of all full pages, and the pages that are told."""
        rounds = Rounds(rule, weights)
        pages = all_pages(rule.crowd)
        pairs = rule.crowd.pairs()
        harmed = []
        for number in numbers:
            found = {tuple(page.marks.values()): rounds.ranks_in(page, number) for page in pages}
            for at, pair in enumerate(pairs):
                ahead = [(marks, marks[:at] + (marks[at] + 1,) + marks[at + 1:]) for marks in found if marks[at] < rule.crowd.most]
                harming = [(marks, more) for marks, more in ahead if found[more][pair[1]] > found[marks][pair[1]]]
                told = rounds.mark_harm(pair, number)
                self.assertEqual(told is not None, bool(harming), (rule.reads, rule.lists, rule.turn, weights, pair, number))
                if told is not None:
                    self.assertEqual([one.crowd for one in told], [rule.crowd] * 2)
                    # Of all that are correct, those with the least marks are told, again and again.
                    self.assertEqual(tuple(tuple(one.marks.values()) for one in told), min(harming))
                    self.assertEqual(rounds.mark_harm(pair, number), told)
                    harmed.append((pair, number))
        return harmed

    def test_two_people(self):
        harmed = []
        for most in (1, 2, 3, 10):
            for weights in ([9] + [0] * 7, [0, 9] + [0] * 6, [3, 2] + [9] * 6, [1, 2] + [0] * 6, [7, 7] + [0] * 6, [0] * 8):
                harmed += self.check(Rule(crowd_of(2, most)), weights, (2, 3, 4, 5, 99, 100) if most < 10 else (2, 3))
        self.assertLessEqual({2, 4, 100}, {number for _, number in harmed})
        for turn in ("centred", "placed"):
            self.assertEqual(self.check(Rule(crowd_of(2, 3), turn=turn), [9] + [0] * 7, (2, 3, 100)), [])
        self.assertEqual(self.check(Rule(crowd_of(2, 3), lists=[["a"], ["b"]]), [9] + [0] * 7, (2, 100)), [])

    def test_three_people(self):
        harmed = {}
        for at, (rule, weights) in enumerate(some_rounds(90, 231, [3], [1, 1, 2])):
            found = self.check(rule, weights, (2, 3, 4, 7, 100) if rule.crowd.most == 1 else (2 + at % 3,))
            harmed[rule.turn] = harmed.get(rule.turn, 0) + len(found)
        self.assertTrue(all(harmed[turn] > 3 for turn in TURNS), harmed)

    def test_as_many_pages_as_may_be(self):
        for at, (rule, weights) in enumerate(itertools.chain(some_rounds(6, 232, [4], [1]), some_rounds(3, 233, [3], [3]))):
            self.check(rule, weights, (2, 3) if at % 2 else (3 + at,))

    def test_all_weights_of_four_people(self):
        # Two lists of two, each marked by the other one alone; and four in one list, with weights of all figures.
        across = [(one, other) for one in "abcd" for other in "abcd" if (one in "ab") != (other in "ab")]
        self.check(Rule(crowd_of(4, 1), lists=[["a", "b"], ["c", "d"]], reads=across), [0, 9, 4, 2, 0, 0, 0, 0], (2, 6))
        self.check(Rule(crowd_of(4, 1), turn="centred"), [9, 8, 0, 7, 1, 1, 1, 1], (3,))

    def test_few_steps(self):
        # Page by page it was 20000 for three people with the greatest mark 1, 1100000 with the greatest mark 3.
        for people, most, limit, limit_of_late in [(2, 1, 150, 40), (3, 1, 5000, 1500), (3, 3, 8000, 4500)]:
            for turn in TURNS:
                rounds = Rounds(Rule(crowd_of(people, most), turn=turn), [3, 2, 1, 1, 0, 0, 0, 0])
                steps = [calls_in(rounds.mark_harm, pair, number) for pair in rounds.rule.crowd.pairs() for number in (2, 3)]
                self.assertLess(sum(steps), limit, (people, most, turn))
                # The rounds that come again are not gone through again.
                self.assertLess(calls_in(rounds.mark_harm, ("a", "b"), 100), limit_of_late, (people, most, turn))

    def test_nothing_is_kept(self):
        rounds = Rounds(Rule(crowd_of(3, 2)), [3, 2, 1, 1, 0, 0, 0, 0])
        before = [repr(vars(one)) for one in (rounds, rounds.rule, rounds.rule.crowd)]
        steps = [calls_in(rounds.mark_harm, ("a", "b"), number) for number in (2, 2, 3, 3)]
        self.assertEqual([steps[0], steps[2]], [steps[1], steps[3]])
        self.assertEqual([repr(vars(one)) for one in (rounds, rounds.rule, rounds.rule.crowd)], before)


class WrongArgumentsTest(RefusingCase):
    def setUp(self):
        self.crowd = crowd_of(3, 2)
        self.rule = Rule(self.crowd)
        self.rounds = Rounds(self.rule, FALLING)
        self.page = Page.filled(self.crowd, 1)

    def test_rule(self):
        others = [Rule(self.crowd, gather=gather) for gather in ("mean", "median", "least", "greatest")]
        others += [Rule(self.crowd, turn=turn, gather="mean") for turn in TURNS] + [Rule(crowd_of(4, 1), gather="trim", trim=1)]
        for value in ODD + [self.crowd, self.page, self.rounds] + others:
            self.refused(BadArgument, "value", value, Rounds, value, None)
            self.refused(BadArgument, "value", value, Rounds, weights=FALLING, rule=value)
        for turn in TURNS:
            self.assertEqual(Rounds(self.rule.changed(turn=turn), FALLING).rule.turn, turn)

    def test_weights(self):
        for value in NO_WEIGHTS:
            self.refused(BadArgument, "value", value, Rounds, self.rule, value)
            self.refused(BadArgument, "value", value, Rounds, weights=value, rule=self.rule)
        for weights in ([0] * 8, [9] * 8, tuple(range(8))):
            self.assertEqual(Rounds(self.rule, weights).weights, list(weights))

    def test_page(self):
        pages = [Page.filled(crowd_of(3, 3), 1), Page.filled(crowd_of(4, 2), 1), Page.filled(Crowd(["b", "a", "c"], 2), 1)]
        for value in ODD + pages + [self.rule, self.page.marks]:
            self.refused(BadArgument, "value", value, self.rounds, value)
            self.refused(BadArgument, "value", value, self.rounds, page=value)
            self.refused(BadArgument, "value", value, self.rounds.ranks_in, value, 0)
            self.refused(BadArgument, "value", value, self.rounds.ranks_in, number=1, page=value)
            self.refused(BadArgument, "value", value, self.rounds.rests, value)
            self.refused(BadArgument, "value", value, self.rounds.rests, page=value)

    def test_person(self):
        great = Rounds(Rule(crowd_of(8, 10)), FALLING)
        for value in ODD + ["d"]:
            for call in (self.rounds.may_read, self.rounds.stands_apart, self.rounds.lift, self.rounds.lift_pages):
                self.refused(NotThere, "word", value, call, value, 0)
                self.refused(NotThere, "word", value, call, number=1, person=value)
        for call in (great.lift, great.lift_pages):
            self.refused(NotThere, "word", "z", call, "z", 2)

    def test_pair(self):
        for value in odd_without() + [("a", "d"), ("a", "a"), ("a", "b", "c"), ["a", "b"], "ab", (Alike(), "b")]:
            self.refused(BadPair, "value", value, self.rounds.mark_harm, value, 0)
            self.refused(BadPair, "value", value, self.rounds.mark_harm, number=1, pair=value)

    def test_number(self):
        great = Rounds(Rule(crowd_of(8, 10)), FALLING)
        for value in NO_TRIED:
            for call in (self.rounds.may_read, self.rounds.stands_apart, self.rounds.lift, self.rounds.lift_pages, great.lift, great.lift_pages):
                self.refused(BadNumber, "number", value, call, "a", value)
                self.refused(BadNumber, "number", value, call, number=value, person="a")
            for rounds in (self.rounds, great):
                self.refused(BadNumber, "number", value, rounds.mark_harm, ("a", "b"), value)
                self.refused(BadNumber, "number", value, rounds.mark_harm, number=value, pair=("a", "b"))
        alone = Rounds(Rule(Crowd(["a"], 1)), EVEN)
        self.refused(BadNumber, "number", 101, alone.lift, "a", 101)
        for value in NO_TOLD:
            self.refused(BadNumber, "number", value, self.rounds.ranks_in, self.page, value)
            self.refused(BadNumber, "number", value, self.rounds.ranks_in, number=value, page=self.page)
        self.assertEqual(len(self.rounds.ranks_in(self.page, 101)), 3)

    def test_by_name(self):
        rounds = self.rounds
        self.assertEqual(rounds.lift(number=2, person="a"), rounds.lift("a", 2))
        self.assertEqual(rounds.lift_pages(number=2, person="a"), rounds.lift_pages("a", 2))
        self.assertEqual(rounds.mark_harm(number=2, pair=("a", "b")), rounds.mark_harm(("a", "b"), 2))
        self.assertEqual(rounds.rests(page=self.page), rounds.rests(self.page))


if __name__ == "__main__":
    unittest.main()
