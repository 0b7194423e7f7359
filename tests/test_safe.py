"""Promises 1 (e) and 14: a safe lot for two or three people with marks 0 and 1."""

import itertools
import random
import unittest
from fractions import Fraction

from ownmarks.crowds import Crowd
from ownmarks.errors import BadArgument, NotThere
from ownmarks.pages import Page
from ownmarks.rules import Rule
from ownmarks.safe import best_lot, best_share, bounds_share, is_lot, share_paper, view_of, views
from tests.helping import ODD, Alike, RefusingCase, as_tuple, calls_in, crowd_of, odd_without

CROWDS = [Crowd(people, 1) for people in (["a", "b"], ["b", "a"], ["a", "b", "c"], ["c", "a", "b"], ["b", "c", "a"], ["zoe", "al"])]
NO_SHARES = odd_without() + [(-1, 2), (2, 4), (0, 2), (1, 0), (1, -1), (True, 1), (1, True), (1.0, 1), [1, 2], (1,), (1, 2, 3), 1, "1/2",
                             Fraction(1, 2)]
NO_CHANCES = NO_SHARES


def all_page_marks(crowd):
    return list(itertools.product([0, 1], repeat=len(crowd.pairs())))


def plain_view(crowd, person, marks):
    return tuple(mark for (marker, _), mark in zip(crowd.pairs(), marks) if marker != person)


def plain_sum(crowd, person, marks):
    return sum(mark for (_, marked), mark in zip(crowd.pairs(), marks) if marked == person)


def plain_greatest(crowd, marks):
    return max(plain_sum(crowd, person, marks) for person in crowd)


def plain_lot_share(crowd, lot):
    """The greatest share of a dict of chances by the words of promise 14, None if it is no lot."""
    shares = []
    for marks in all_page_marks(crowd):
        chances = {person: Fraction(*lot[person, plain_view(crowd, person, marks)]) for person in crowd}
        if sum(chances.values()) > 1 or min(chances.values()) < 0:
            return None
        if plain_greatest(crowd, marks):
            worth = sum(chances[person] * plain_sum(crowd, person, marks) for person in crowd)
            shares.append(worth / plain_greatest(crowd, marks))
    return min(shares)


def plain_bound(crowd, paper):
    """The sum of all y of a share paper by the words of promise 14, None if it is none."""
    pages = [marks for marks, _, _ in paper]
    rows = {marks: (Fraction(*y), Fraction(*z)) for marks, y, z in paper}
    if len(set(pages)) != len(pages) or any(min(row) < 0 for row in rows.values()):
        return None
    if sum(z * plain_greatest(crowd, marks) for marks, (y, z) in rows.items()) != 1:
        return None
    for person in crowd:
        for view in {plain_view(crowd, person, marks) for marks in pages}:
            found = [marks for marks in pages if plain_view(crowd, person, marks) == view]
            asked = sum(rows[marks][1] * plain_sum(crowd, person, marks) for marks in found)
            if sum(rows[marks][0] for marks in found) < asked:
                return None
    return sum(y for y, z in rows.values())


def near(share, least=Fraction(0)):
    """Fractions below, at and above a share."""
    told = [Fraction(0), share - Fraction(1, 10 ** 30), share - Fraction(1, 7), share, share + Fraction(1, 10 ** 30), share + 1]
    return [one for one in told if one >= least]


class ViewsTest(unittest.TestCase):
    def test_ordinary(self):
        two = crowd_of(2, 1)
        self.assertEqual(views(two, "a"), [(0,), (1,)])
        self.assertEqual(view_of(two, "a", (1, 0)), (0,))
        self.assertEqual(view_of(two, "b", (1, 0)), (1,))
        three = crowd_of(3, 1)
        self.assertEqual(view_of(three, "a", (1, 0, 1, 0, 0, 1)), (1, 0, 0, 1))
        self.assertEqual(view_of(three, "b", (1, 0, 1, 0, 0, 1)), (1, 0, 0, 1))
        self.assertEqual(view_of(three, "c", (1, 0, 1, 0, 0, 1)), (1, 0, 1, 0))

    def test_all(self):
        for crowd in CROWDS:
            for person in crowd:
                told = sorted({plain_view(crowd, person, marks) for marks in all_page_marks(crowd)})
                self.assertEqual(views(crowd, person), told)
                self.assertEqual(len(told), 2 if len(crowd) == 2 else 16)
                for marks in all_page_marks(crowd):
                    self.assertEqual(view_of(crowd, person, marks), plain_view(crowd, person, marks))
                    self.assertIs(type(view_of(crowd, person, marks)), tuple)


class BestLotTest(unittest.TestCase):
    def test_lot_and_paper_agree(self):
        for crowd in CROWDS:
            share = best_share(crowd)
            self.assertEqual(plain_lot_share(crowd, best_lot(crowd)), Fraction(*share))
            self.assertEqual(plain_bound(crowd, share_paper(crowd)), Fraction(*share))
            self.assertEqual((best_lot(crowd), share_paper(crowd)), (best_lot(crowd), share_paper(crowd)))
            for one in near(Fraction(*share)):
                self.assertIs(is_lot(crowd, best_lot(crowd), as_tuple(one)), one <= Fraction(*share))
                self.assertIs(bounds_share(crowd, share_paper(crowd), as_tuple(one)), one >= Fraction(*share))

    def test_a_half(self):
        # Of two people each could be the only one with a mark; with both marks there is one prize for both.
        for crowd in CROWDS:
            self.assertEqual(best_share(crowd), (1, 2))

    def test_forms(self):
        for crowd in CROWDS:
            keys = [(person, view) for person in crowd for view in views(crowd, person)]
            self.assertEqual(list(best_lot(crowd)), keys)
            self.assertIs(type(best_lot(crowd)), dict)
            paper = share_paper(crowd)
            self.assertIs(type(paper), list)
            self.assertEqual([type(row) for row in paper], [tuple] * len(paper))
            pages = [marks for marks, _, _ in paper]
            self.assertEqual(pages, sorted(set(pages)))

    def test_own_marks_never_count(self):
        crowd = crowd_of(3, 1)
        lot = best_lot(crowd)
        for person, marks in itertools.product(crowd, all_page_marks(crowd)):
            own = [at for at, pair in enumerate(crowd.pairs()) if pair[0] == person]
            other = tuple(1 - mark if at in own else mark for at, mark in enumerate(marks))
            self.assertEqual(lot[person, view_of(crowd, person, marks)], lot[person, view_of(crowd, person, other)])


class IsLotTest(unittest.TestCase):
    def test_other_authors(self):
        two = crowd_of(2, 1)
        lot = {("b", (1,)): (1, 3), ("a", (0,)): (2, 3), ("a", (1,)): (2, 3), ("b", (0,)): (0, 1)}
        for share, told in [((0, 1), True), ((1, 3), True), ((1, 2), False), ((17, 50), False)]:
            self.assertIs(is_lot(two, lot, share), told)
        self.assertIs(is_lot(share=(1, 3), value=lot, crowd=two), True)
        self.assertIs(is_lot(two, {**lot, ("b", (1,)): (1, 2)}, (0, 1)), False)
        nothing = {key: (0, 1) for key in lot}
        self.assertIs(is_lot(two, nothing, (0, 1)), True)
        self.assertIs(is_lot(two, nothing, (1, 10 ** 40)), False)

    def test_by_lot(self):
        chance = random.Random(81)
        for crowd in CROWDS[:4]:
            for _ in range(60):
                lot = best_lot(crowd)
                many = chance.choice([1, 2, 5])
                for key in chance.sample(list(lot), min(many, len(lot))):
                    worth = Fraction(*lot[key]) + chance.choice([Fraction(1, 6), -Fraction(1, 6), Fraction(1, 7), -Fraction(1, 9)])
                    lot[key] = as_tuple(max(worth, Fraction(0)) if chance.randrange(8) else worth)
                share = plain_lot_share(crowd, lot)
                for one in near(share or Fraction(0)):
                    self.assertIs(is_lot(crowd, lot, as_tuple(one)), share is not None and one <= share)

    def test_chances_together_at_most_one(self):
        two = crowd_of(2, 1)
        for chance, told in [((1, 2), True), ((50001, 100000), False)]:
            lot = {(person, view): (1, 2) for person in two for view in views(two, person)}
            lot["a", (0,)] = chance
            self.assertIs(is_lot(two, lot, (0, 1)), told)

    def test_any_value(self):
        for crowd in (crowd_of(2, 1), crowd_of(3, 1)):
            good = best_lot(crowd)
            self.assertIs(is_lot(crowd, good, (0, 1)), True)
            wrong = ODD + [list(good.items()), list(good), tuple(good), best_lot(crowd_of(5 - len(crowd), 1)), crowd, Rule(crowd)]
            for key in list(good)[::5] + list(good)[-1:]:
                wrong.append({at: chance for at, chance in good.items() if at != key})
                for value in NO_CHANCES:
                    wrong.append({**good, key: value})
                person, view = key
                for other in [(person, tuple(bool(mark) for mark in view)), (person, (2,) + view[1:]), (person, (0.0,) + view[1:]),
                              (person, view + (0,)), (person, view[1:]), ("z", view), (None, view), (person, view, 0), (person,), ("z", (0,) * len(crowd.pairs())),
                              person, None, True, 0, (person, None), (person, 1), Alike(), (Alike(), view), (person, Alike())]:
                    rest = {at: chance for at, chance in good.items() if at != key}
                    wrong.append({**rest, other: good[key]})
                    if other not in good:
                        wrong.append({**good, other: (0, 1)})
            for value in wrong:
                self.assertIs(is_lot(crowd, value, (0, 1)), False, value)


    def test_any_order_of_keys(self):
        chance = random.Random(84)
        for crowd in CROWDS:
            rows = list(best_lot(crowd).items())
            chance.shuffle(rows)
            self.assertIs(is_lot(crowd, dict(rows), (1, 2)), True)
            self.assertIs(is_lot(crowd, dict(rows), (4, 7)), False)

    def test_every_page_counts(self):
        # A lot in which one page alone is wrong: a chance too much, or one too little.
        for crowd in (crowd_of(2, 1), crowd_of(3, 1)):
            for marks in all_page_marks(crowd):
                lot = {(person, view): (0, 1) for person in crowd for view in views(crowd, person)}
                for person in crowd:
                    lot[person, plain_view(crowd, person, marks)] = (1, len(crowd))
                self.assertIs(is_lot(crowd, lot, (0, 1)), True)
                for person in crowd:
                    more = {**lot, (person, plain_view(crowd, person, marks)): (51, 50 * len(crowd))}
                    self.assertIs(is_lot(crowd, more, (0, 1)), False)

    def test_great_fractions(self):
        for figures in (40, 200, 3000):
            crowd = crowd_of(3, 1)
            lot = best_lot(crowd)
            for at, key in enumerate(list(lot)[::3]):
                worth = Fraction(*lot[key])
                less = worth * Fraction(10 ** figures + at, 10 ** figures + at + 1)
                lot[key] = as_tuple(less)
            share = plain_lot_share(crowd, lot)
            for one in near(share):
                self.assertIs(is_lot(crowd, lot, as_tuple(one)), one <= share)
            # A chance too much, by next to nothing.
            more = {key: as_tuple(Fraction(1, 3) * Fraction(10 ** figures - at, 10 ** figures + at)) for at, key in enumerate(lot)}
            self.assertIs(is_lot(crowd, more, (0, 1)), True)
            key = list(more)[5]
            more[key] = as_tuple(Fraction(*more[key]) + Fraction(1, 3 * 10 ** (figures - 3)))
            self.assertEqual(is_lot(crowd, more, (0, 1)), plain_lot_share(crowd, more) is not None)
            more[key] = (2, 3)
            self.assertIs(is_lot(crowd, more, (0, 1)), False)

    def test_few_steps(self):
        crowd = crowd_of(3, 1)
        lot = best_lot(crowd)
        # Page by page and mark by mark it was 3800 and 2300.
        self.assertLess(calls_in(is_lot, crowd, lot, (1, 2)), 900)
        self.assertLess(calls_in(is_lot, crowd, {key: (1, 1) for key in lot}, (1, 2)), 550)


class BoundsShareTest(unittest.TestCase):
    def test_other_authors(self):
        two = crowd_of(2, 1)
        # Twice as much of y as is asked, told in another order, with a page of nothing.
        paper = [((1, 1), (2, 3), (0, 1)), ((0, 1), (0, 1), (1, 3)), ((0, 0), (1, 5), (0, 1)), ((1, 0), (0, 1), (2, 3))]
        for share, told in [((13, 15), True), ((4, 5), False), ((1, 1), True), ((3, 1), True)]:
            self.assertIs(bounds_share(two, paper, share), told)
        self.assertIs(bounds_share(share=(13, 15), paper=paper, crowd=two), True)
        self.assertIs(bounds_share(two, [((1, 1), (1, 1), (1, 1))], (2, 1)), True)
        self.assertIs(bounds_share(two, [((1, 0), (1, 1), (1, 1))], (1, 1)), True)
        self.assertIs(bounds_share(two, [((1, 0), (9, 10), (1, 1))], (1, 1)), False)

    def test_sums_that_do_not_fit(self):
        for crowd in CROWDS:
            good = share_paper(crowd)
            wrong = [good[:at] + good[at + 1:] for at in range(len(good))] + [good + good[:1], good + good, []]
            wrong.append([(marks, y, as_tuple(Fraction(*z) * 2)) for marks, y, z in good])
            wrong.append([(marks, as_tuple(Fraction(*y) * Fraction(99, 100)), z) for marks, y, z in good])
            for paper in wrong:
                self.assertIs(bounds_share(crowd, paper, (9, 1)), False)
            self.assertIs(bounds_share(crowd, [(marks, as_tuple(Fraction(*y) * 2), z) for marks, y, z in good], (1, 1)), True)

    def test_by_lot(self):
        chance = random.Random(82)
        for crowd in CROWDS[:4]:
            for _ in range(60):
                paper = share_paper(crowd)
                for _ in range(chance.randint(0, 3)):
                    marks = chance.choice(all_page_marks(crowd))
                    paper.append((marks, as_tuple(Fraction(chance.randint(0, 6), 6)), (0, 1)))
                if chance.randrange(2):
                    at = chance.randrange(len(paper))
                    paper[at] = (paper[at][0], as_tuple(Fraction(*paper[at][1]) + Fraction(chance.randint(-1, 1), 9)), paper[at][2])
                chance.shuffle(paper)
                bound = plain_bound(crowd, paper)
                for one in near(bound or Fraction(1)):
                    self.assertIs(bounds_share(crowd, paper, as_tuple(one)), bound is not None and one >= bound)

    def test_greater_sums(self):
        # Papers with other pages: y for each page by itself, as much as its greatest chance asks.
        crowd = crowd_of(3, 1)
        chance = random.Random(83)
        for _ in range(40):
            pages = chance.sample(all_page_marks(crowd), 4)
            greatest = sum(plain_greatest(crowd, marks) for marks in pages)
            if greatest:
                less = Fraction(chance.randint(5, 7), 6)
                paper = [(marks, as_tuple(less * Fraction(plain_greatest(crowd, marks), greatest)), (1, greatest)) for marks in pages]
                bound = plain_bound(crowd, paper)
                for one in near(less):
                    self.assertIs(bounds_share(crowd, paper, as_tuple(one)), bound is not None and one >= bound)

    def test_any_value(self):
        for crowd in (crowd_of(2, 1), crowd_of(3, 1)):
            good = share_paper(crowd)
            zero = (0,) * len(crowd.pairs())
            self.assertIs(bounds_share(crowd, good + [(zero, (0, 1), (0, 1))], (1, 2)), True)
            wrong = ODD + [tuple(good), iter(good), dict((row[0], row) for row in good), [list(row) for row in good], good + [None], crowd]
            for value in NO_SHARES:
                wrong += [good + [(zero, value, (0, 1))], good + [(zero, (0, 1), value)], [(good[0][0], value, good[0][2]), *good[1:]]]
            for value in ODD + [(False,) * len(zero), (2,) + zero[1:], zero + (0,), zero[1:], list(zero), (None,) * len(zero), (0.0,) + zero[1:],
                                (-1,) + zero[1:], (zero,)]:
                wrong.append(good + [(value, (0, 1), (0, 1))])
            wrong += [good + [(zero, (0, 1))], good + [(zero, (0, 1), (0, 1), (0, 1))], good + [(zero,)], good + [zero]]
            wrong += [[(tuple(bool(mark) for mark in marks), y, z) for marks, y, z in good]]
            for value in wrong:
                self.assertIs(bounds_share(crowd, value, (5, 1)), False, value)


class WrongArgumentsTest(RefusingCase):
    def setUp(self):
        self.crowd = crowd_of(3, 1)

    def test_crowd(self):
        crowds = [crowd_of(1, 1), crowd_of(4, 1), crowd_of(8, 1), crowd_of(2, 2), crowd_of(3, 2), crowd_of(3, 10)]
        for value in ODD + crowds + [Page.filled(self.crowd, 1), Rule(self.crowd)]:
            for call in (best_share, best_lot, share_paper):
                self.refused(BadArgument, "value", value, call, value)
                self.refused(BadArgument, "value", value, call, crowd=value)
            self.refused(BadArgument, "value", value, views, value, "z")
            self.refused(BadArgument, "value", value, views, person="a", crowd=value)
            self.refused(BadArgument, "value", value, view_of, value, "z", None)
            self.refused(BadArgument, "value", value, view_of, marks=(0, 0), person="a", crowd=value)
            self.refused(BadArgument, "value", value, is_lot, value, None, None)
            self.refused(BadArgument, "value", value, bounds_share, value, None, None)
            self.refused(BadArgument, "value", value, bounds_share, share=(1, 2), paper=[], crowd=value)

    def test_person(self):
        for value in ODD + ["d"]:
            self.refused(NotThere, "word", value, views, self.crowd, value)
            self.refused(NotThere, "word", value, views, person=value, crowd=self.crowd)
            self.refused(NotThere, "word", value, view_of, self.crowd, value, None)
            self.refused(NotThere, "word", value, view_of, marks=(0,) * 6, person=value, crowd=self.crowd)

    def test_marks(self):
        for value in ODD + [[0] * 6, (0,) * 5, (0,) * 7, (0, 1, 2, 0, 1, 0), (0, 1, True, 0, 1, 0), (False,) * 6, (0, 1, None, 0, 0, 0),
                            (0, 1, 0.0, 0, 0, 0), (0, 0, 0, 0, 0, -1), "000000", (Alike(),) * 6]:
            self.refused(BadArgument, "value", value, view_of, self.crowd, "a", value)
            self.refused(BadArgument, "value", value, view_of, marks=value, person="a", crowd=self.crowd)

    def test_share(self):
        for value in NO_SHARES:
            self.refused(BadArgument, "value", value, is_lot, self.crowd, None, value)
            self.refused(BadArgument, "value", value, is_lot, self.crowd, best_lot(self.crowd), value)
            self.refused(BadArgument, "value", value, bounds_share, self.crowd, None, value)
            self.refused(BadArgument, "value", value, bounds_share, share=value, paper=share_paper(self.crowd), crowd=self.crowd)

    def test_by_name(self):
        for call in (best_share, best_lot, share_paper):
            self.assertEqual(call(crowd=self.crowd), call(self.crowd))
        self.assertEqual(views(person="a", crowd=self.crowd), views(self.crowd, "a"))
        self.assertEqual(view_of(marks=(0, 1, 1, 1, 0, 0), crowd=self.crowd, person="b"), (0, 1, 0, 0))

    def test_told_values_may_be_changed(self):
        best_lot(self.crowd).clear()
        share_paper(self.crowd).clear()
        views(self.crowd, "a").clear()
        self.assertEqual((len(best_lot(self.crowd)), len(views(self.crowd, "a"))), (48, 16))
        self.assertIs(bounds_share(self.crowd, share_paper(self.crowd), (1, 2)), True)


if __name__ == "__main__":
    unittest.main()
