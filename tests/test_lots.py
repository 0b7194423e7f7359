"""Promises 1 (e) and 13: partings by lot."""

import itertools
import random
import unittest
from fractions import Fraction

from ownmarks.crowds import Crowd
from ownmarks.errors import BadArgument, TooMany
from ownmarks.lots import lot_ratio, lot_shares, lot_winners, lot_worth, worst_lot
from ownmarks.pages import Page
from ownmarks.rules import Rule
from tests.helping import ODD, RefusingCase, all_pages, all_rows, as_tuple, crowd_of, odd_without, page_of, some_page

OF_PAGE = [lot_shares, lot_worth, lot_ratio]


def plain_winner(page, members, markers):
    best = None
    for member in page.crowd:
        if member in members:
            total = sum(page[marker, member] for marker in markers)
            if best is None or total > best[0]:
                best = (total, member)
    return [best[1]] if best else []


def plain_winners(page, first):
    second = [person for person in page.crowd if person not in first]
    found = plain_winner(page, first, second) + plain_winner(page, second, first)
    return [person for person in page.crowd if person in found]


def all_firsts(crowd):
    """The first lists of all partings."""
    return [list(first) for many in range(len(crowd) + 1) for first in itertools.combinations(crowd.people, many)]


def plain_shares(page):
    firsts = all_firsts(page.crowd)
    won = [plain_winners(page, first) for first in firsts]
    return {person: Fraction(sum(person in told for told in won), 2 * len(firsts)) for person in page.crowd}


def plain_sums(page):
    return {person: sum(mark for pair, mark in page.marks.items() if pair[1] == person) for person in page.crowd}


def plain_worth(page):
    shares, sums = plain_shares(page), plain_sums(page)
    return sum((shares[person] * sums[person] for person in page.crowd), Fraction(0))


def plain_ratio(page):
    greatest = max(plain_sums(page).values())
    return plain_worth(page) / greatest if greatest else None


class LotWinnersTest(unittest.TestCase):
    def test_ordinary(self):
        page = page_of(crowd_of(3, 2), [1, 2, 0, 2, 1, 1])
        self.assertEqual(lot_winners(page, ["a"]), ["a", "c"])
        self.assertEqual(lot_winners(page, ["b", "c"]), ["a", "c"])
        self.assertEqual(lot_winners(page, ("c", "a")), ["b", "c"])
        self.assertEqual(lot_winners(page, ("a", "b")), ["a", "c"])
        self.assertEqual(lot_winners(first=["b"], page=page), ["b", "c"])

    def test_empty_lists(self):
        page = Page.filled(crowd_of(3, 2), 1)
        for first in ([], (), ["a", "b", "c"], ("c", "b", "a")):
            self.assertEqual(lot_winners(page, first), ["a"])
        alone = Page.filled(Crowd(["a"], 1), 0)
        self.assertEqual(lot_winners(alone, []), ["a"])
        self.assertEqual(lot_winners(alone, ["a"]), ["a"])

    def test_ties_go_to_the_earliest(self):
        page = Page.filled(crowd_of(4, 3), 2)
        self.assertEqual(lot_winners(page, ["d", "b"]), ["a", "b"])
        self.assertEqual(lot_winners(page, ["d", "c"]), ["a", "c"])
        self.assertEqual(lot_winners(page.with_mark(("a", "d"), 3), ["d", "c"]), ["a", "d"])
        # A mark within a list is not counted.
        self.assertEqual(lot_winners(page.with_mark(("c", "d"), 3), ["d", "c"]), ["a", "c"])

    def test_all_partings(self):
        chance = random.Random(71)
        for _ in range(60):
            crowd = crowd_of(chance.randint(1, 6), chance.randint(1, 4))
            page = some_page(crowd, chance, 0)
            for first in all_firsts(crowd):
                chance.shuffle(first)
                told = plain_winners(page, first)
                self.assertEqual(lot_winners(page, first), told)
                self.assertEqual(lot_winners(page, tuple(first)), told)


class LotSharesTest(unittest.TestCase):
    def test_ordinary(self):
        self.assertEqual(lot_shares(Page.filled(Crowd(["a"], 5), 0)), {"a": (1, 2)})
        self.assertEqual(lot_shares(Page.filled(crowd_of(2, 5), 0)), {"a": (1, 2), "b": (1, 4)})
        # Of three people, b wins beside a, and once as the one that c marks in a list with a.
        self.assertEqual(lot_shares(page_of(crowd_of(3, 1), [0, 0, 0, 0, 0, 1])), {"a": (3, 8), "b": (3, 8), "c": (1, 8)})
        self.assertEqual(lot_worth(page_of(crowd_of(2, 5), [3, 0])), (3, 4))
        self.assertEqual(lot_ratio(page_of(crowd_of(2, 5), [3, 0])), (1, 4))
        self.assertEqual(lot_worth(page_of(crowd_of(2, 5), [3, 2])), (7, 4))

    def test_no_marks_above_nought(self):
        for many in range(1, 9):
            page = Page.filled(crowd_of(many, 3), 0)
            self.assertEqual(lot_worth(page), (0, 1))
            self.assertIs(lot_ratio(page), None)
            self.assertEqual(lot_shares(page), {person: as_tuple(share) for person, share in plain_shares(page).items()})

    def check(self, page):
        shares = {person: as_tuple(share) for person, share in plain_shares(page).items()}
        self.assertEqual(lot_shares(page), shares)
        self.assertEqual(list(lot_shares(page)), page.crowd.people)
        self.assertEqual(lot_worth(page), as_tuple(plain_worth(page)))
        self.assertEqual(lot_ratio(page), as_tuple(plain_ratio(page)))

    def test_all_small_pages(self):
        for people, most in [(1, 1), (2, 3), (3, 1)]:
            for page in all_pages(crowd_of(people, most)):
                self.check(page)

    def test_up_to_eight_people(self):
        chance = random.Random(72)
        for many in range(3, 9):
            for most in (1, 2, 10):
                for _ in range(2):
                    self.check(some_page(crowd_of(many, most), chance, 0))

    def test_own_rows_never_change_own_shares(self):
        chance = random.Random(73)
        for people, most in [(2, 3), (3, 2), (4, 1)]:
            page = some_page(crowd_of(people, most), chance, 0)
            for person in page.crowd:
                shares = [lot_shares(page.with_row(person, row))[person] for row in all_rows(page.crowd, person)]
                self.assertEqual(set(shares), {lot_shares(page)[person]})
        for _ in range(5):
            page = some_page(crowd_of(8, 10), chance, 0)
            other = some_page(crowd_of(8, 10), chance, 0)
            for person in page.crowd:
                self.assertEqual(lot_shares(page.with_row(person, other.row(person)))[person], lot_shares(page)[person])


class WorstLotTest(unittest.TestCase):
    def test_all_full_pages(self):
        for people, most in [(2, 1), (2, 2), (2, 10), (3, 1), (3, 2)]:
            crowd = crowd_of(people, most)
            ratios = [plain_ratio(page) for page in all_pages(crowd)]
            least = min(ratio for ratio in ratios if ratio is not None)
            ratio, page = worst_lot(crowd)
            self.assertIs(type(worst_lot(crowd)), tuple)
            self.assertEqual(ratio, as_tuple(least))
            self.assertTrue(page.crowd == crowd and page.is_full)
            self.assertEqual(plain_ratio(page), least)
            self.assertEqual(worst_lot(crowd=crowd), (ratio, page))

    def test_as_many_pages_as_may_be(self):
        for people, most in [(3, 3), (4, 1)]:
            ratio, page = worst_lot(crowd_of(people, most))
            self.assertEqual(as_tuple(plain_ratio(page)), ratio)
            chance = random.Random(74)
            for _ in range(300):
                other = plain_ratio(some_page(crowd_of(people, most), chance, 0))
                self.assertTrue(other is None or other >= Fraction(*ratio))

    def test_one_person(self):
        for most in (1, 10):
            self.assertIs(worst_lot(Crowd(["a"], most)), None)

    def test_too_many_pages(self):
        for people, most in [(3, 4), (4, 2), (5, 1), (8, 10), (3, 10)]:
            with self.assertRaises(TooMany) as caught:
                worst_lot(crowd_of(people, most))
            self.assertEqual(caught.exception.most, 4096)


class WrongArgumentsTest(RefusingCase):
    def setUp(self):
        self.crowd = crowd_of(3, 2)
        self.page = Page.filled(self.crowd, 1)

    def test_page(self):
        lacking = [Page.filled(self.crowd, None), self.page.with_mark(("c", "b"), None), self.page.with_mark(("a", "b"), None)]
        for value in ODD + lacking + [self.crowd, self.page.marks, Rule(self.crowd)]:
            for call in OF_PAGE:
                self.refused(BadArgument, "value", value, call, value)
                self.refused(BadArgument, "value", value, call, page=value)
            self.refused(BadArgument, "value", value, lot_winners, value, ["z"])
            self.refused(BadArgument, "value", value, lot_winners, first=[], page=value)

    def test_first(self):
        firsts = [["a", "a"], ["a", "b", "a"], ("z",), ["a", "d"], "ab", "a", {"a": 1}, {"a"}, [["a"]], [("a",)], ["a", None], iter(["a"]),
                  ["a", "b", "c", "a"], [True], dict(), range(0)]
        for value in odd_without([], (), ["a"], ["a", "b"], ("a",), ("a", "b", "c")) + firsts:
            self.refused(BadArgument, "value", value, lot_winners, self.page, value)
            self.refused(BadArgument, "value", value, lot_winners, first=value, page=self.page)

    def test_crowd(self):
        for value in ODD + [self.page, ["a", "b"], Rule(self.crowd)]:
            self.refused(BadArgument, "value", value, worst_lot, value)
            self.refused(BadArgument, "value", value, worst_lot, crowd=value)

    def test_by_name(self):
        for call in OF_PAGE:
            self.assertEqual(call(page=self.page), call(self.page))

    def test_told_and_given_values_may_be_changed(self):
        first = ["a"]
        lot_winners(self.page, first).clear()
        self.assertEqual(first, ["a"])
        lot_shares(self.page).clear()
        self.assertEqual(len(lot_shares(self.page)), 3)
        self.assertEqual(lot_winners(self.page, first), ["a", "b"])


if __name__ == "__main__":
    unittest.main()
