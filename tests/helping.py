"""What several test files need: values of many kinds, and ways through all pages."""

import functools
import itertools
import random
import sys
import unittest
from fractions import Fraction
from statistics import median

from ownmarks.crowds import Crowd
from ownmarks.errors import BadRule
from ownmarks.pages import Page
from ownmarks.rules import Rule
from ownmarks.web import own_reads

GATHERS = ["sum", "mean", "median", "trim", "least", "greatest"]
TURNS = ["plain", "centred", "placed"]
# Each gather with each number that goes with it.
GATHERED = [(gather, trim) for gather in GATHERS for trim in ([1, 2, 3] if gather == "trim" else [0])]


class Alike:
    """Equal to every value, to show that kinds are looked at, not only ==."""

    def __eq__(self, other):
        return True

    def __hash__(self):
        return hash("a")


# Values that are no crowd, page, rule, person, pair, mark, fraction or list of such, in any crowd.
ODD = [None, True, False, -1, 11, 2.0, 1j, "", "A", "zz", "ninesigns", b"a", [], ["a"], ["a", "b"], (), ("a",), ("a", "a"),
       ("a", "b", "c"), ("a", "zz"), ("zz", "a"), ("a", 1), (True, "a"), ("a", ["b"]), (["a"], "b"), [["a"]], {}, {"a": 1},
       {"a"}, frozenset(["a"]), object(), object, len, Alike(), ValueError("a"), range(2), 10 ** 50, float("nan"), "a ", "b\n"]


class RefusingCase(unittest.TestCase):
    """Tests of calls that raise an error of just this class, with just this value in its field."""

    def refused(self, kind, field, value, call, /, *given, **named):
        with self.assertRaises(kind) as caught:
            call(*given, **named)
        self.assertIs(type(caught.exception), kind)
        self.assertIs(getattr(caught.exception, field), value)


def calls_in(call, *given):
    """How many functions of Python's own code are entered in a call: what it costs, whatever the machine."""
    entered = [0]

    def told(frame, event, value):
        entered[0] += event == "call"

    before = sys.getprofile()
    sys.setprofile(told)
    try:
        call(*given)
    finally:
        sys.setprofile(before)
    return entered[0]


def odd_without(*kept):
    """The odd values except some, told apart by kind and worth."""
    return [value for value in ODD if not any(type(value) is type(one) and value == one for one in kept)]


def crowd_of(many, most):
    return Crowd(list("abcdefgh"[:many]), most)


def page_of(crowd, marks):
    """The page with these marks, in the order of the pairs."""
    return Page(crowd, dict(zip(crowd.pairs(), marks)))


def all_marks(crowd):
    return range(crowd.most + 1)


def all_pages(crowd):
    return [page_of(crowd, marks) for marks in itertools.product(all_marks(crowd), repeat=len(crowd.pairs()))]


def all_rows(crowd, person):
    others = [other for other in crowd if other != person]
    return [dict(zip(others, marks)) for marks in itertools.product(all_marks(crowd), repeat=len(others))]


def some_page(crowd, chance, missing):
    """A page by lot; about one of so many marks is missing (none if it is 0)."""
    marks = {}
    for pair in crowd.pairs():
        gone = missing and chance.randrange(missing) == 0
        marks[pair] = None if gone else chance.randrange(crowd.most + 1)
    return Page(crowd, marks)


def some_lists(people, chance):
    many = min(chance.choice([1, 1, 2, 3, len(people)]), len(people))
    lists = [[] for _ in range(many)]
    for person in people:
        lists[chance.randrange(many)].append(person)
    return [members for members in lists if members]


def some_rule(crowd, chance, turn="plain", gathers=None):
    """A rule by lot."""
    while True:
        gather, trim = chance.choice(gathers or (GATHERED if turn == "plain" else [("sum", 0), ("mean", 0)]))
        many = chance.choice([2, 4, 5])
        reads = [pair for pair in crowd.pairs() if chance.randrange(5) < many]
        try:
            return Rule(crowd, turn=turn, reads=reads, gather=gather, trim=trim, prizes=chance.randrange(4),
                        lists=some_lists(crowd.people, chance))
        except BadRule:
            continue


# The words of the document once more, as plainly as can be, with Python's own fractions.


def plain_turned(turn, row):
    """What the marks of a row, a dict with None for missing ones, turn to."""
    given = [mark for mark in row.values() if mark is not None]
    told = {}
    for other, mark in row.items():
        if mark is None:
            told[other] = None
        elif turn == "centred":
            told[other] = mark - Fraction(sum(given), len(given))
        elif turn == "placed":
            told[other] = sum(one < mark for one in given) + Fraction(sum(one == mark for one in given) - 1, 2)
        else:
            told[other] = Fraction(mark)
    return told


def plain_gathered(gather, trim, said):
    said = sorted(Fraction(mark) for mark in said)
    if not said:
        return Fraction(0)
    if gather == "trim" and len(said) > 2 * trim:
        said = said[trim:-trim]
    ways = {"sum": sum, "median": median, "least": min, "greatest": max}
    return Fraction(ways[gather](said)) if gather in ways else Fraction(sum(said), len(said))


def plain_scores(rule, page):
    rows = {person: plain_turned(rule.turn, page.row(person)) for person in rule.crowd}
    told = {}
    for person in rule.crowd:
        said = [rows[marker][person] for marker, marked in rule.reads if marked == person]
        said = [worth for worth in said if worth is not None]
        told[person] = plain_gathered(rule.gather, rule.trim, said) if rule.readers(person) else None
    return told


def plain_ranks(rule, page):
    found = plain_scores(rule, page)
    told = {}
    for members in rule.lists:
        if len(members) == 1:
            told[members[0]] = 1
            continue
        ordered = sorted(members, key=lambda person: (-found[person], rule.crowd.place(person)))
        told.update({person: 1 + at for at, person in enumerate(ordered)})
    return {person: told[person] for person in rule.crowd}


def as_tuple(worth):
    return None if worth is None else (worth.numerator, worth.denominator)


def multisets(most, many):
    return itertools.combinations_with_replacement(range(most + 1), many)


@functools.lru_cache(None)
def plain_worths(gather, trim, most, readers):
    """All scores of somebody with so many readers, by all marks of these."""
    return sorted({plain_gathered(gather, trim, marks) for marks in multisets(most, readers)})


@functools.lru_cache(None)
def plain_spans(gather, trim, most, readers):
    """All tuples (low, high) of somebody with so many readers, by all marks of the other ones."""
    return {(plain_gathered(gather, trim, (0,) + marks), plain_gathered(gather, trim, marks + (most,)))
            for marks in multisets(most, readers - 1)}


def plain_values(rule, person):
    readers = len(rule.readers(person))
    return plain_worths(rule.gather, rule.trim, rule.crowd.most, readers) if readers else []


@functools.lru_cache(None)
def plain_decides(gather, trim, most, readers, earlier, worth):
    spans = plain_spans(gather, trim, most, readers)
    return any(low <= worth < high if earlier else low < worth <= high for low, high in spans)


def plain_decided(rule, person, worth):
    told = []
    for _, member in own_reads(rule, person):
        earlier = rule.crowd.place(person) < rule.crowd.place(member)
        if plain_decides(rule.gather, rule.trim, rule.crowd.most, len(rule.readers(member)), earlier, worth):
            told.append(member)
    return told


def plain_lift(rule, person):
    """The lift by the words of promise 9, mark by mark."""
    return max([len(plain_decided(rule, person, worth)) for worth in plain_values(rule, person)], default=0)


def tried_lifts(rule):
    """The lifts by going through all full pages."""
    spans = {}
    for page in all_pages(rule.crowd):
        for person, rank in plain_ranks(rule, page).items():
            others = tuple(mark for pair, mark in page.marks.items() if pair[0] != person)
            low, high = spans.get((person, others), (rank, rank))
            spans[person, others] = (min(low, rank), max(high, rank))
    told = {person: 0 for person in rule.crowd}
    for (person, _), (low, high) in spans.items():
        told[person] = max(told[person], high - low)
    return told


def great_rules():
    """Rules of eight people with the greatest mark 10: of each gather all in one list, and some by lot."""
    crowd = crowd_of(8, 10)
    chance = random.Random(10)
    for gather, trim in GATHERED:
        yield Rule(crowd, gather=gather, trim=trim)
        yield some_rule(crowd, chance, gathers=[(gather, trim)])
        yield some_rule(crowd, chance, gathers=[(gather, trim)])


def small_rules(many, seed):
    chance = random.Random(seed)
    for _ in range(many):
        yield some_rule(crowd_of(chance.randint(1, 5), chance.randint(1, 3)), chance)
