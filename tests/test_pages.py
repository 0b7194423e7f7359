"""Promises 2 and 4: pages of marks."""

import unittest

from ownmarks.crowds import Crowd
from ownmarks.errors import BadArgument, BadMark, BadPage, BadPair, NotThere
from ownmarks.pages import Page
from tests.helping import ODD, Alike, RefusingCase, crowd_of, odd_without, page_of

NO_MARKS = odd_without(None) + [3, "1", (1,), [0], 1.0]


class PageTest(unittest.TestCase):
    def setUp(self):
        self.crowd = Crowd(["b", "a", "c"], 2)
        self.marks = {("b", "a"): 0, ("b", "c"): 1, ("a", "b"): 2, ("a", "c"): None, ("c", "b"): 1, ("c", "a"): 0}
        self.page = Page(self.crowd, self.marks)

    def test_ordinary(self):
        self.assertEqual(self.page.crowd, self.crowd)
        self.assertEqual(self.page.marks, self.marks)
        for pair, mark in self.marks.items():
            self.assertEqual(self.page[pair], mark)
        self.assertEqual(self.page["b", "c"], 1)
        self.assertIs(self.page["a", "c"], None)

    def test_order_of_told_keys(self):
        turned = dict(reversed(list(self.marks.items())))
        page = Page(self.crowd, turned)
        self.assertEqual(list(page.marks), self.crowd.pairs())
        self.assertEqual(page, self.page)
        self.assertEqual([list(page.row(person)) for person in "bac"], [["a", "c"], ["b", "c"], ["b", "a"]])
        moved = page.with_row("b", {"c": 2, "a": 1})
        self.assertEqual(list(moved.row("b").items()), [("a", 1), ("c", 2)])
        self.assertEqual(list(moved.marks), self.crowd.pairs())
        self.assertEqual(list(page.with_mark(("c", "a"), 2).marks), self.crowd.pairs())
        self.assertEqual(list(Page.filled(self.crowd, 1).marks), self.crowd.pairs())

    def test_is_full(self):
        self.assertIs(self.page.is_full, False)
        self.assertIs(self.page.with_mark(("a", "c"), 0).is_full, True)
        self.assertIs(Page.filled(self.crowd, None).is_full, False)
        self.assertIs(Page.filled(self.crowd, 0).is_full, True)
        self.assertIs(Page(Crowd(["a"], 1), {}).is_full, True)

    def test_row(self):
        self.assertEqual(self.page.row("a"), {"b": 2, "c": None})
        self.assertEqual(self.page.row("b"), {"a": 0, "c": 1})
        self.assertEqual(Page(Crowd(["a"], 1), {}).row("a"), {})

    def test_with_mark(self):
        for mark in (0, 1, 2, None):
            page = self.page.with_mark(("b", "c"), mark)
            self.assertEqual(page.marks, {**self.marks, ("b", "c"): mark})
            self.assertEqual(self.page.marks, self.marks)

    def test_with_row(self):
        page = self.page.with_row("c", {"a": 2, "b": None})
        self.assertEqual(page.marks, {**self.marks, ("c", "b"): None, ("c", "a"): 2})
        self.assertEqual(self.page.marks, self.marks)
        alone = Page(Crowd(["a"], 1), {})
        self.assertEqual(alone.with_row("a", {}), alone)

    def test_filled(self):
        for mark in (0, 1, 2, None):
            self.assertEqual(Page.filled(self.crowd, mark), Page(self.crowd, {pair: mark for pair in self.marks}))
            self.assertEqual(self.page.filled(self.crowd, mark), Page.filled(self.crowd, mark))
        self.assertEqual(Page.filled(Crowd(["a"], 1), 1).marks, {})

    def test_dicts_belong_to_the_caller(self):
        before = dict(self.marks)
        self.marks[("b", "a")] = 2
        self.page.marks[("b", "c")] = 2
        self.page.marks.clear()
        self.page.row("a")["b"] = 0
        row = {"a": 1, "b": 2}
        page = self.page.with_row("c", row)
        row["a"] = 0
        self.assertEqual(self.page.marks, before)
        self.assertEqual(page.row("c"), {"b": 2, "a": 1})
        self.assertEqual(self.page.row("a"), {"b": 2, "c": None})

    def test_equal(self):
        self.assertTrue(self.page == Page(Crowd(("b", "a", "c"), 2), self.marks))
        self.assertFalse(self.page != Page(Crowd(("b", "a", "c"), 2), self.marks))
        self.assertFalse(self.page == Page(Crowd(["b", "a", "c"], 3), self.marks))
        self.assertFalse(self.page == Page(Crowd(["a", "b", "c"], 2), self.marks))
        self.assertFalse(self.page == self.page.with_mark(("a", "c"), 0))
        self.assertTrue(self.page != self.page.with_mark(("b", "a"), None))
        for value in ODD + [self.marks, self.crowd]:
            self.assertIs(self.page == value, False)

    def test_no_iteration(self):
        with self.assertRaises(TypeError):
            iter(self.page)
        with self.assertRaises(TypeError):
            list(self.page)
        with self.assertRaises(TypeError):
            ("a", "b") in self.page

    def test_by_name(self):
        self.assertEqual(Page(marks=self.marks, crowd=self.crowd), self.page)
        self.assertEqual(self.page.row(person="a"), self.page.row("a"))
        self.assertEqual(self.page.with_mark(mark=1, pair=("a", "c"))["a", "c"], 1)
        self.assertEqual(self.page.with_row(row={"b": 0, "c": 0}, person="a").row("a"), {"b": 0, "c": 0})
        self.assertEqual(Page.filled(mark=1, crowd=self.crowd), Page.filled(self.crowd, 1))

    def test_greatest(self):
        page = Page.filled(crowd_of(8, 10), 10)
        self.assertEqual(len(page.marks), 56)
        self.assertEqual(page.with_mark(("h", "a"), 0)["h", "a"], 0)


class PageRefusedTest(RefusingCase):
    def setUp(self):
        self.crowd = crowd_of(3, 2)
        self.page = page_of(self.crowd, [0, 1, 2, 0, 1, None])
        self.before = self.page.marks

    def tearDown(self):
        self.assertEqual(self.page.marks, self.before)

    def test_crowd(self):
        for value in ODD + [self.page, ["a", "b"]]:
            self.refused(BadArgument, "value", value, Page, value, {})
            self.refused(BadArgument, "value", value, Page, value, 7)
            self.refused(BadArgument, "value", value, Page.filled, value, 1)
            self.refused(BadArgument, "value", value, Page.filled, mark="x", crowd=value)

    def test_marks(self):
        for value in ODD + [self.page, list(self.before.items())]:
            self.refused(BadPage, "value", value, Page, self.crowd, value)

    def test_marks_with_wrong_keys(self):
        lacking = {pair: mark for pair, mark in self.before.items() if pair != ("b", "a")}
        for key in [("a", "a"), ("a", "d"), "ab", None, True, 0, ("b", "a", "c"), ("b",), frozenset(["b", "a"])]:
            self.refused(BadPage, "value", marks := {**lacking, key: 1}, Page, self.crowd, marks)
            self.refused(BadPage, "value", marks := {**self.before, key: 1}, Page, self.crowd, marks)
        self.refused(BadPage, "value", lacking, Page, self.crowd, lacking)
        self.refused(BadPage, "value", marks := {**lacking, ("b", Alike()): 1}, Page, self.crowd, marks)

    def test_marks_with_wrong_marks(self):
        for mark in NO_MARKS:
            marks = {**self.before, ("c", "b"): mark}
            self.refused(BadPage, "value", marks, Page, self.crowd, marks)

    def test_pairs(self):
        for value in ODD + [("a", "d"), ("b", "b"), slice(1, 2), 0]:
            self.refused(BadPair, "value", value, self.page.__getitem__, value)
            self.refused(BadPair, "value", value, self.page.with_mark, value, 1)
            self.refused(BadPair, "value", value, self.page.with_mark, mark="x", pair=value)
            with self.assertRaises(BadPair):
                self.page[value]

    def test_with_mark(self):
        for mark in NO_MARKS:
            self.refused(BadMark, "value", mark, self.page.with_mark, ("a", "b"), mark)

    def test_filled(self):
        for mark in NO_MARKS:
            self.refused(BadMark, "value", mark, Page.filled, self.crowd, mark)
            self.refused(BadMark, "value", mark, Page.filled, Crowd(["a"], 2), mark)

    def test_persons(self):
        for value in ODD + ["d", ("a", "b")]:
            self.refused(NotThere, "word", value, self.page.row, value)
            self.refused(NotThere, "word", value, self.page.with_row, value, {"b": 1, "c": 1})
            self.refused(NotThere, "word", value, self.page.with_row, row=5, person=value)

    def test_rows(self):
        rows = ODD + [{"b": 1}, {"b": 1, "c": 1, "a": None}, {"b": 1, "c": 1, "d": 1}, {"b": 1, "d": 1}, {"a": 1, "b": 1},
                      [("b", 1), ("c", 1)], {"b": 1, 3: 1}]
        self.refused(BadMark, "value", row := {Alike(): 1, "c": 1}, self.page.with_row, "b", row)
        for row in rows:
            self.refused(BadMark, "value", row, self.page.with_row, "a", row)
        for mark in NO_MARKS:
            row = {"b": 1, "c": mark}
            self.refused(BadMark, "value", row, self.page.with_row, "a", row)


if __name__ == "__main__":
    unittest.main()
