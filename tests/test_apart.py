"""Promise 22: markers whose marks for the same person are far apart."""

import itertools
import random
import unittest

from ownmarks.apart import always_left_out, clashes, goes_together, least_left_out, least_spread
from ownmarks.crowds import Crowd
from ownmarks.errors import BadArgument, BadNumber
from ownmarks.pages import Page
from ownmarks.rules import Rule
from tests.helping import ODD, Alike, RefusingCase, crowd_of, odd_without, page_of, some_page

OF_SPREAD = [clashes, least_left_out, always_left_out]


def plain_together(page, people, spread):
    """Whether some markers go together, by the words of promise 22."""
    for marked in page.crowd:
        marks = [page[marker, marked] for marker in people if marker != marked]
        marks = [mark for mark in marks if mark is not None]
        if marks and max(marks) - min(marks) > spread:
            return False
    return True


def plain_least(page, spread):
    """All lists of as few people as can be whose leaving out is enough, by going through all sets."""
    people = page.crowd.people
    for size in range(len(people) + 1):
        told = [list(lot) for lot in itertools.combinations(people, size)
                if plain_together(page, [person for person in people if person not in lot], spread)]
        if told:
            return told


def some_pages(many, seed, sizes=range(1, 9)):
    """Pages by lot, with and without missing marks; on some all but a few markers think alike."""
    chance = random.Random(seed)
    for at in range(many):
        crowd = Crowd(chance.sample(list("abcdefgh"), chance.choice(sizes)), chance.randint(1, 10))
        if at % 2:
            yield some_page(crowd, chance, chance.choice([0, 4]))
            continue
        odd = chance.sample(crowd.people, min(chance.randint(0, 3), len(crowd)))
        worth = {person: chance.randint(0, crowd.most) for person in crowd}
        marks = []
        for marker, marked in crowd.pairs():
            near = min(max(worth[marked] + chance.choice([-1, 0, 0, 1]), 0), crowd.most)
            marks.append(chance.randint(0, crowd.most) if marker in odd else None if chance.randrange(9) == 0 else near)
        yield page_of(crowd, marks)


class ClashesTest(unittest.TestCase):
    def test_ordinary(self):
        crowd = Crowd(["c", "a", "b"], 9)
        page = Page.filled(crowd, 4).with_row("a", {"c": 9, "b": 0}).with_row("b", {"c": 7, "a": 4})
        self.assertEqual(clashes(page, 0), [("c", "a", "b"), ("a", "b", "c")])
        self.assertEqual(clashes(page, 2), [("c", "a", "b")])
        self.assertEqual(clashes(spread=4, page=page), [])
        self.assertEqual(clashes(page.with_mark(("a", "b"), None), 0), [("a", "b", "c")])
        self.assertEqual(clashes(Page.filled(Crowd(["a"], 3), 0), 0), [])
        self.assertEqual(clashes(Page.filled(crowd_of(2, 3), 0).with_mark(("a", "b"), 3), 0), [])

    def test_all_spreads(self):
        for page in some_pages(120, 221):
            people = page.crowd.people
            for spread in range(page.crowd.most + 1):
                told = []
                for one, other in itertools.combinations(people, 2):
                    for marked in people:
                        marks = [page[marker, marked] for marker in (one, other) if marker != marked]
                        if len(marks) == 2 and None not in marks and abs(marks[0] - marks[1]) > spread:
                            told.append((one, other, marked))
                self.assertEqual(clashes(page, spread), told)
            self.assertEqual(clashes(page, page.crowd.most), [])


class GoesTogetherTest(unittest.TestCase):
    def test_ordinary(self):
        crowd = crowd_of(3, 9)
        page = Page.filled(crowd, 4).with_mark(("a", "c"), 6)
        for people, spread, told in [(["a", "b"], 1, False), (("b", "a"), 2, True), (["a", "c"], 0, True), ([], 0, True), ((), 0, True),
                                     (["b"], 0, True), (["a", "b", "c"], 1, False), (("c", "b", "a"), 2, True)]:
            self.assertIs(goes_together(page, people, spread), told)
            self.assertIs(goes_together(spread=spread, people=people, page=page), told)
        self.assertIs(goes_together(page.with_mark(("b", "c"), None), ["a", "b", "c"], 0), True)

    def test_all_sets(self):
        chance = random.Random(222)
        for page in some_pages(60, 223, range(1, 7)):
            for size in range(len(page.crowd) + 1):
                for lot in itertools.combinations(page.crowd.people, size):
                    people = chance.sample(lot, size)
                    spread = chance.randint(0, page.crowd.most)
                    told = plain_together(page, people, spread)
                    self.assertIs(goes_together(page, people, spread), told)
                    self.assertIs(goes_together(page, tuple(people), spread), told)


class LeftOutTest(unittest.TestCase):
    def test_ordinary(self):
        crowd = Crowd(["d", "a", "c", "b"], 9)
        page = Page.filled(crowd, 4)
        self.assertEqual((least_left_out(page, 0), always_left_out(page, 0)), ([[]], []))
        page = page.with_mark(("a", "c"), 9)
        self.assertEqual((least_left_out(page, 0), always_left_out(page, 0)), ([["a"]], ["a"]))
        self.assertEqual((least_left_out(page, 4), least_left_out(page, 5)), ([["a"]], [[]]))
        page = page.with_mark(("d", "c"), 0)
        # a, b and d think unlike each other of c: of the three one alone may stay.
        self.assertEqual(least_left_out(spread=0, page=page), [["d", "a"], ["d", "b"], ["a", "b"]])
        self.assertEqual(always_left_out(spread=0, page=page), [])
        two = Page.filled(Crowd(["b", "c", "a"], 5), 1).with_mark(("b", "a"), 5)
        self.assertEqual((least_left_out(two, 0), always_left_out(two, 3)), ([["b"], ["c"]], []))

    def check(self, page):
        for spread in range(page.crowd.most + 1):
            told = plain_least(page, spread)
            self.assertEqual(least_left_out(page, spread), told)
            self.assertEqual(always_left_out(page, spread), [person for person in page.crowd if all(person in lot for lot in told)])

    def test_all_sets(self):
        for page in some_pages(80, 224, range(1, 7)):
            self.check(page)

    def test_eight_people(self):
        for page in some_pages(14, 225, [8]):
            self.check(page)

    def test_nobody_goes_with_anybody(self):
        crowd = crowd_of(8, 10)
        page = Page(crowd, {pair: crowd.place(pair[0]) for pair in crowd.pairs()})
        self.assertEqual(least_left_out(page, 0), [[person for person in crowd if person != kept] for kept in "hgfedcba"])
        self.assertEqual(least_left_out(page, 6), [["a"], ["h"]])


class LeastSpreadTest(unittest.TestCase):
    def test_ordinary(self):
        crowd = crowd_of(4, 9)
        page = Page.filled(crowd, 4).with_mark(("a", "c"), 9).with_mark(("d", "c"), 1)
        self.assertEqual([least_spread(page, many) for many in (0, 1, 2, 3, 8)], [8, 3, 0, 0, 0])
        self.assertEqual(least_spread(many=1, page=page), 3)
        self.assertEqual(least_spread(Page.filled(crowd, None), 0), 0)
        self.assertEqual(least_spread(Page.filled(crowd_of(3, 1), 0).with_mark(("a", "b"), 1), 0), 1)
        self.assertEqual(least_spread(Page.filled(Crowd(["a"], 1), 0), 0), 0)

    def test_all_numbers(self):
        for page in some_pages(60, 226):
            fewest = [len(plain_least(page, spread)[0]) for spread in range(page.crowd.most + 1)]
            for many in range(9):
                told = min(spread for spread, few in enumerate(fewest) if few <= many)
                self.assertEqual(least_spread(page, many), told)


class WrongArgumentsTest(RefusingCase):
    def setUp(self):
        self.crowd = crowd_of(3, 4)
        self.page = Page.filled(self.crowd, 1).with_mark(("a", "b"), 3)

    def test_page(self):
        for value in ODD + [self.crowd, Rule(self.crowd), self.page.marks]:
            for call in OF_SPREAD:
                self.refused(BadArgument, "value", value, call, value, -1)
                self.refused(BadArgument, "value", value, call, spread=0, page=value)
            self.refused(BadArgument, "value", value, goes_together, value, None, -1)
            self.refused(BadArgument, "value", value, goes_together, spread=0, people=[], page=value)
            self.refused(BadArgument, "value", value, least_spread, value, -1)
            self.refused(BadArgument, "value", value, least_spread, many=0, page=value)

    def test_people(self):
        good = [[], (), ["a"], ["a", "b"], ("a",), ("a", "b", "c")]
        wrong = odd_without(*good) + [["a", "a"], ["d"], ["a", "d"], "abc", {"a": 1}, {"a", "b"}, ["a", None], ("a", "b", "a"), [["a"]], [Alike()],
                                      iter(["a"])]
        for value in wrong:
            self.refused(BadArgument, "value", value, goes_together, self.page, value, -1)
            self.refused(BadArgument, "value", value, goes_together, spread=0, people=value, page=self.page)

    def test_spread(self):
        for value in odd_without() + [5, -1, True, False, 1.0, "1", (0,), 10 ** 30]:
            for call in OF_SPREAD:
                self.refused(BadNumber, "number", value, call, self.page, value)
                self.refused(BadNumber, "number", value, call, spread=value, page=self.page)
            self.refused(BadNumber, "number", value, goes_together, self.page, ["a"], value)
            self.refused(BadNumber, "number", value, goes_together, spread=value, people=(), page=self.page)
        for call in OF_SPREAD:
            self.assertIsInstance(call(self.page, 4), list)

    def test_many(self):
        for value in odd_without() + [9, -1, True, False, 1.0, "1", (0,), 10 ** 30]:
            self.refused(BadNumber, "number", value, least_spread, self.page, value)
            self.refused(BadNumber, "number", value, least_spread, many=value, page=self.page)

    def test_told_and_given_lists_belong_to_the_caller(self):
        people = ["a", "b"]
        goes_together(self.page, people, 0)
        clashes(self.page, 0).clear()
        told = least_left_out(self.page, 0)
        told[0].append("z")
        told.clear()
        always_left_out(self.page, 0).append("z")
        self.assertEqual((people, clashes(self.page, 0)), (["a", "b"], [("a", "c", "b")]))
        self.assertEqual((least_left_out(self.page, 0), always_left_out(self.page, 0)), ([["a"], ["c"]], []))


if __name__ == "__main__":
    unittest.main()
