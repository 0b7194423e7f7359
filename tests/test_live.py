"""Promise 16, a live round: marks that come one by one, with changes that can be taken back."""

import random
import unittest

from ownmarks.crowds import Crowd
from ownmarks.errors import BadArgument, BadChange, BadMark, BadPair, BadText, MarksError, NotThere, NothingLeft
from ownmarks.live import Live
from ownmarks.pages import Page
from ownmarks.rules import Rule
from tests.helping import ODD, Alike, RefusingCase, all_pages, crowd_of, odd_without, page_of, plain_ranks, some_page, some_rule

NO_PAIRS = odd_without() + [("a", "a"), ("a", "d"), ["a", "b"], "ab", ("b", "a", "c")]
NO_MARKS = ODD + [3, -1, 1.0, "1", [1], (1,)]


def marks_of(live):
    return {pair: live[pair] for pair in live.rule.crowd.pairs() if live[pair] is not None}


def what_is(live):
    """All that can be seen of a round, what undo and redo can do, too (by a copy)."""
    told = [live.page.marks, live.journal()]
    for way in ("undo", "redo"):
        copy = live.copied()
        while True:
            try:
                getattr(copy, way)()
            except NothingLeft:
                break
            told.append((way, copy.page.marks, copy.journal()))
    return told


class LiveCase(RefusingCase):
    def setUp(self):
        self.rule = Rule(crowd_of(3, 2))
        self.live = Live(self.rule)

    def unchanged(self, live, kind, call, *given, **named):
        """The call raises an error of this kind, and changes nothing."""
        before = what_is(live)
        with self.assertRaises(kind):
            call(*given, **named)
        self.assertEqual(what_is(live), before)


class MarksTest(LiveCase):
    def test_without_any_mark(self):
        live = self.live
        self.assertIs(live.rule, self.rule)
        self.assertEqual(live.page, Page.filled(self.rule.crowd, None))
        self.assertEqual((len(live), live.is_full, live.left(), live.journal()), (0, False, self.rule.crowd.pairs(), ""))
        self.assertIs(live["a", "b"], None)
        self.assertIs(("a", "b") in live, False)
        self.assertEqual(live.ranks(), {"a": 1, "b": 2, "c": 3})
        self.assertEqual([live.can_rank(person) for person in "abc"], [[1, 2, 3]] * 3)
        self.assertIs(live.is_settled, False)

    def test_put_and_clear(self):
        live = self.live
        live["a", "b"] = 2
        live.put(("c", "b"), 0)
        live.put(mark=1, pair=("b", "a"))
        self.assertEqual((live["a", "b"], live["c", "b"], live["b", "a"], live["b", "c"]), (2, 0, 1, None))
        self.assertEqual(len(live), 3)
        self.assertIs(("c", "b") in live, True)
        self.assertEqual(live.left(), [("a", "c"), ("b", "c"), ("c", "a")])
        self.assertEqual(live.page, Page(self.rule.crowd, {pair: live[pair] for pair in self.rule.crowd.pairs()}))
        live["a", "b"] = 1
        self.assertEqual((live["a", "b"], len(live)), (1, 3))
        live.clear(("c", "b"))
        live.clear(pair=("a", "b"))
        self.assertEqual((marks_of(live), len(live)), ({("b", "a"): 1}, 1))
        self.assertEqual(live.journal(), "mark a b 2\nmark c b 0\nmark b a 1\nmark a b 1\nclear c b\nclear a b")

    def test_full(self):
        pairs = self.rule.crowd.pairs()
        for at, pair in enumerate(pairs):
            self.assertIs(self.live.is_full, False)
            self.assertEqual(self.live.left(), pairs[at:])
            self.live[pair] = 0
        self.assertIs(self.live.is_full, True)
        self.assertEqual((self.live.left(), len(self.live)), ([], 6))
        self.live.clear(pairs[3])
        self.assertIs(self.live.is_full, False)

    def test_one_person(self):
        live = Live(Rule(Crowd(["a"], 1)))
        self.assertEqual((live.is_full, len(live), live.left(), live.is_settled, live.can_rank("a")), (True, 0, [], True, [1]))

    def test_pairs_that_are_in(self):
        self.live["a", "b"] = 0
        self.assertIs(("a", "b") in self.live, True)
        for value in NO_PAIRS + [("a", "c"), ("b", "a"), 0]:
            self.assertIs(value in self.live, False)

    def test_not_iterated_over(self):
        for way in (iter, list, sorted, lambda live: [one for one in live]):
            with self.assertRaises(TypeError):
                way(self.live)

    def test_wrong_pairs_and_marks(self):
        live = self.live
        live["a", "b"] = 1
        live["b", "a"] = 2
        live.undo()
        for value in NO_PAIRS:
            self.refused(BadPair, "value", value, live.__getitem__, value)
            self.refused(BadPair, "value", value, live.__setitem__, value, None)
            self.refused(BadPair, "value", value, live.put, value, None)
            self.refused(BadPair, "value", value, live.put, mark=1, pair=value)
            self.refused(BadPair, "value", value, live.clear, value)
            self.unchanged(live, BadPair, live.put, value, 1)
            self.unchanged(live, BadPair, live.clear, value)
        for value in NO_MARKS:
            self.refused(BadMark, "value", value, live.put, ("a", "b"), value)
            self.refused(BadMark, "value", value, live.put, mark=value, pair=("b", "a"))
            self.refused(BadMark, "value", value, live.__setitem__, ("a", "b"), value)
            self.unchanged(live, BadMark, live.put, ("a", "c"), value)
        for pair in self.rule.crowd.pairs()[1:]:
            self.refused(BadPair, "value", pair, live.clear, pair)
            self.unchanged(live, BadPair, live.clear, pair)
        live.redo()
        self.assertEqual(marks_of(live), {("a", "b"): 1, ("b", "a"): 2})

    def test_wrong_rules(self):
        turned = [self.rule.changed(turn="centred"), self.rule.changed(turn="placed", gather="mean")]
        for value in ODD + [self.rule.crowd, self.live] + turned:
            self.refused(BadArgument, "value", value, Live, value)
            self.refused(BadArgument, "value", value, Live, rule=value)
            self.refused(BadArgument, "value", value, Live.read, value, None)
            self.refused(BadArgument, "value", value, Live.read, text="", rule=value)

    def test_told_values_may_be_changed(self):
        self.live["a", "b"] = 1
        self.live.page.marks.clear()
        self.live.left().clear()
        self.live.ranks().clear()
        self.live.can_rank("a").clear()
        self.assertEqual((len(self.live), len(self.live.left()), len(self.live.ranks())), (1, 5, 3))
        page = self.live.page
        self.live["a", "b"] = 2
        self.assertEqual(page["a", "b"], 1)


class ChangesTest(LiveCase):
    def test_undo_and_redo(self):
        live = self.live
        live["a", "b"] = 2
        live["a", "b"] = 1
        live.clear(("a", "b"))
        live.undo()
        self.assertEqual((live["a", "b"], live.journal()), (1, "mark a b 2\nmark a b 1"))
        live.undo()
        self.assertEqual((live["a", "b"], live.journal()), (2, "mark a b 2"))
        live.redo()
        self.assertEqual((live["a", "b"], live.journal()), (1, "mark a b 2\nmark a b 1"))
        live.redo()
        self.assertIs(live["a", "b"], None)
        self.unchanged(live, NothingLeft, live.redo)
        for _ in range(3):
            live.undo()
        self.assertEqual((marks_of(live), live.journal()), ({}, ""))
        self.unchanged(live, NothingLeft, live.undo)

    def test_nothing_left_at_first(self):
        self.unchanged(self.live, NothingLeft, self.live.undo)
        self.unchanged(self.live, NothingLeft, self.live.redo)

    def test_redo_only_without_another_change(self):
        for change in (lambda live: live.put(("a", "b"), 2), lambda live: live.clear(("b", "c")), lambda live: live.put_all([(("a", "b"), 1)])):
            live = Live(self.rule)
            live["b", "c"] = 1
            live["a", "b"] = 2
            live.undo()
            change(live)
            self.unchanged(live, NothingLeft, live.redo)

    def test_the_same_mark_again_is_a_change(self):
        live = self.live
        live["a", "b"] = 2
        live["b", "c"] = 1
        live.undo()
        live["a", "b"] = 2
        self.assertEqual(live.journal(), "mark a b 2\nmark a b 2")
        self.unchanged(live, NothingLeft, live.redo)
        live.undo()
        self.assertEqual(live["a", "b"], 2)
        live.undo()
        self.assertIs(live["a", "b"], None)

    def test_no_marks_put_change_nothing(self):
        live = self.live
        live["a", "b"] = 2
        live.undo()
        live.put_all([])
        live.redo()
        self.assertEqual(live["a", "b"], 2)


class PutAllTest(LiveCase):
    def test_ordinary(self):
        self.live["a", "b"] = 1
        self.live.put_all([(("a", "b"), 2), (("b", "c"), 0), (("a", "b"), 0)])
        self.assertEqual(marks_of(self.live), {("a", "b"): 0, ("b", "c"): 0})
        self.assertEqual(self.live.journal(), "mark a b 1\nmark a b 2\nmark b c 0\nmark a b 0")
        self.live.undo()
        self.assertEqual(self.live["a", "b"], 2)
        self.live.put_all(rows=[(("c", "a"), 1)])
        self.assertEqual(self.live["c", "a"], 1)

    def test_all_or_none(self):
        live = self.live
        live["a", "b"] = 1
        live["a", "c"] = 1
        live.undo()
        good = (("a", "b"), 2)
        for value in NO_PAIRS:
            self.refused(BadPair, "value", value, live.put_all, [good, (value, 1)])
            self.unchanged(live, BadPair, live.put_all, [good, (value, None), (("b", "c"), 7)])
        for value in NO_MARKS:
            self.refused(BadMark, "value", value, live.put_all, [good, (("b", "a"), value), good])
            self.unchanged(live, BadMark, live.put_all, [good, (("b", "a"), value), (None, 1)])

    def test_no_rows(self):
        live = self.live
        live["a", "b"] = 1
        live.undo()
        good = (("a", "b"), 2)
        rows = [(good,), {("a", "b"): 2}, iter([good]), [list(good)], [good, None], [good, (("a", "b"),)], [(("a", "b"), 2, 2)], [("a", "b", 2)],
                [good, 1], [()], [(None, None), ()], ["ab"], [Alike()], {good}, Alike(), good]
        for value in odd_without([]) + rows:
            self.refused(BadChange, "value", value, live.put_all, value)
            self.refused(BadChange, "value", value, live.put_all, rows=value)
            self.unchanged(live, BadChange, live.put_all, value)

    def test_rows_may_be_changed(self):
        rows = [(("a", "b"), 2)]
        self.live.put_all(rows)
        self.assertEqual(rows, [(("a", "b"), 2)])
        rows.clear()
        self.assertEqual(self.live["a", "b"], 2)


class RanksTest(LiveCase):
    def test_ranks_with_missing_marks(self):
        chance = random.Random(121)
        for _ in range(80):
            crowd = crowd_of(chance.randint(1, 5), chance.randint(1, 3))
            live, page = Live(some_rule(crowd, chance)), some_page(crowd, chance, 2)
            live.put_all([(pair, mark) for pair, mark in page.marks.items() if mark is not None])
            self.assertEqual(live.page, page)
            self.assertEqual(live.ranks(), plain_ranks(live.rule, page))

    def test_can_rank_against_all_full_pages(self):
        chance = random.Random(122)
        for people, most, many in [(2, 3, 5), (3, 1, 14), (3, 2, 5), (4, 1, 2)]:
            for _ in range(many):
                live = Live(some_rule(crowd_of(people, most), chance))
                pages = [(page.marks, plain_ranks(live.rule, page)) for page in all_pages(live.rule.crowd)]
                pairs = live.left()
                chance.shuffle(pairs)
                before = {person: list(range(1, people + 1)) for person in live.rule.crowd}
                while True:
                    told = {person: live.can_rank(person) for person in live.rule.crowd}
                    found = [ranks for marks, ranks in pages if all(marks[pair] == mark for pair, mark in marks_of(live).items())]
                    self.assertEqual(told, {person: sorted({ranks[person] for ranks in found}) for person in live.rule.crowd})
                    self.assertTrue(all(set(told[person]) <= set(before[person]) for person in told))
                    self.assertIs(live.is_settled, all(len(ranks) == 1 for ranks in told.values()))
                    if not pairs:
                        break
                    before = told
                    live[pairs.pop()] = chance.randint(0, most)
                self.assertEqual(told, {person: [rank] for person, rank in live.ranks().items()})

    def test_great(self):
        chance = random.Random(123)
        for _ in range(12):
            live = Live(some_rule(crowd_of(8, 10), chance))
            page = some_page(live.rule.crowd, chance, 0)
            pairs = live.left()
            chance.shuffle(pairs)
            before = {person: set(range(1, 9)) for person in live.rule.crowd}
            for pair in pairs:
                live[pair] = page[pair]
                for person in chance.sample(live.rule.crowd.people, 2):
                    told = live.can_rank(person=person)
                    self.assertLessEqual(set(told), before[person])
                    before[person] = set(told)
            self.assertIs(live.is_settled, True)
            for person, rank in plain_ranks(live.rule, page).items():
                self.assertEqual(live.can_rank(person), [rank])

    def test_settled_ahead_of_the_last_mark(self):
        live = Live(Rule(crowd_of(3, 2), lists=[["a", "b"], ["c"]], reads=[("c", "a"), ("c", "b"), ("a", "c")]))
        live["c", "a"] = 2
        self.assertEqual((live.can_rank("a"), live.can_rank("c"), live.is_settled, live.is_full), ([1], [1], True, False))
        live["c", "a"] = 1
        self.assertEqual((live.can_rank("b"), live.is_settled), ([1, 2], False))

    def test_nobody_of_the_crowd(self):
        for value in ODD + ["d"]:
            self.refused(NotThere, "word", value, self.live.can_rank, value)
            self.refused(NotThere, "word", value, self.live.can_rank, person=value)


class TrialTest(LiveCase):
    def setUp(self):
        LiveCase.setUp(self)
        self.live["a", "b"] = 1
        self.live["a", "c"] = 2
        self.live["b", "a"] = 0
        self.live.undo()

    def change(self, live):
        live["a", "b"] = 2
        live.clear(("a", "c"))
        live.put_all([(("c", "a"), 1), (("c", "b"), 1)])
        live.undo()

    def test_without_an_error(self):
        with self.live.trial() as told:
            self.assertIs(told, self.live)
            self.change(told)
        self.assertEqual(self.live.journal(), "mark a b 1\nmark a c 2\nmark a b 2\nclear a c\nmark c a 1")
        self.assertEqual(marks_of(self.live), {("a", "b"): 2, ("c", "a"): 1})
        self.live.redo()
        self.assertEqual(self.live["c", "b"], 1)

    def test_an_error_leaves_all_as_it_was(self):
        changes = [self.change, lambda live: live.undo(), lambda live: live.redo(), lambda live: (live.undo(), live.undo()),
                   lambda live: live.clear(("a", "b")), lambda live: live.put(("a", "b"), 1), lambda live: None,
                   lambda live: (live.undo(), live.put(("b", "c"), 1))]
        for error in (KeyError("a"), BadPair(None), ZeroDivisionError(), KeyboardInterrupt(), MarksError()):
            for change in changes:
                before = what_is(self.live)
                with self.assertRaises(type(error)) as caught:
                    with self.live.trial() as told:
                        change(told)
                        raise error
                self.assertIs(caught.exception, error)
                self.assertEqual(what_is(self.live), before)

    def test_errors_of_its_own(self):
        before = what_is(self.live)
        with self.assertRaises(BadMark):
            with self.live.trial() as told:
                told["c", "b"] = 1
                told["c", "b"] = 3
        self.assertEqual(what_is(self.live), before)

    def test_an_error_that_does_not_leave_the_block(self):
        with self.live.trial() as told:
            told["c", "b"] = 1
            with self.assertRaises(BadMark):
                told["c", "b"] = 3
        self.assertEqual(self.live["c", "b"], 1)

    def test_several_with_one_behind_another(self):
        trial = self.live.trial()
        with trial as told:
            told["c", "b"] = 1
        behind = what_is(self.live)
        for _ in range(3):
            with self.assertRaises(KeyError):
                with trial as told:
                    self.change(told)
                    raise KeyError
            self.assertEqual(what_is(self.live), behind)
        with trial as told:
            told.undo()
        self.assertIs(self.live["c", "b"], None)
        self.live["c", "b"] = 2
        behind = what_is(self.live)
        with self.assertRaises(KeyError):
            with trial:
                self.live.undo()
                raise KeyError
        self.assertEqual(what_is(self.live), behind)

    def test_changes_behind_a_block_that_failed(self):
        for _ in range(2):
            with self.assertRaises(KeyError):
                with self.live.trial() as told:
                    self.change(told)
                    raise KeyError
            self.live.redo()
            self.assertEqual(self.live["b", "a"], 0)
            self.live.undo()
        self.live["c", "b"] = 2
        self.unchanged(self.live, NothingLeft, self.live.redo)

    def test_trials_in_trials(self):
        before = what_is(self.live)
        with self.assertRaises(KeyError):
            with self.live.trial() as outer:
                outer["c", "b"] = 1
                middle = what_is(self.live)
                with self.assertRaises(BadPair):
                    with self.live.trial() as inner:
                        self.change(inner)
                        raise BadPair(1)
                self.assertEqual(what_is(self.live), middle)
                outer["b", "c"] = 2
                raise KeyError
        self.assertEqual(what_is(self.live), before)

    def test_a_trial_that_was_made_ahead(self):
        trial = self.live.trial()
        self.live["c", "b"] = 1
        before = what_is(self.live)
        with self.assertRaises(KeyError):
            with trial:
                self.live.undo()
                self.live.undo()
                raise KeyError
        self.assertEqual(what_is(self.live), before)


class JournalTest(LiveCase):
    def test_read(self):
        text = "mark a b 2\nmark b a 0\nclear a b\nmark b a 1"
        live = Live.read(self.rule, text)
        self.assertEqual((live.journal(), marks_of(live)), (text, {("b", "a"): 1}))
        self.assertIs(live.rule, self.rule)
        live.undo()
        self.assertEqual(live["b", "a"], 0)
        live.undo()
        self.assertEqual(live["a", "b"], 2)
        live.undo()
        live.undo()
        self.assertRaises(NothingLeft, live.undo)
        self.assertEqual(Live.read(text="", rule=self.rule), self.live)
        self.assertEqual(self.live.read(self.rule, text).journal(), text)
        self.assertRaises(NothingLeft, Live.read(self.rule, text).redo)

    def test_two_figures(self):
        live = Live(Rule(crowd_of(2, 10)))
        live["a", "b"] = 10
        self.assertEqual(live.journal(), "mark a b 10")
        self.assertEqual(Live.read(live.rule, "mark a b 10"), live)

    def refused_at(self, line, text):
        with self.assertRaises(BadText) as caught:
            Live.read(self.rule, text)
        self.assertIs(type(caught.exception), BadText)
        self.assertEqual(caught.exception.line, line, text)

    def test_no_texts(self):
        for value in [value for value in ODD if not isinstance(value, str)] + [b"", ["mark a b 1"], b"mark a b 1"]:
            self.refused_at(0, value)

    def test_wrong_lines(self):
        good = ["mark a b 2", "mark b a 0", "clear a b"]
        wrong = ["", " ", "mark a b", "mark a b 3", "mark a b 01", "mark a b -1", "mark a b -", "mark a b 1 ", " mark a b 1", "mark  a b 1", "mark a a 1",
                 "mark a d 1", "mark a 1", "mark a b c 1", "mark a b 12345", "mark a b +1", "mark a b 1.0", "mark a b None", "mark a b \u0661", "Mark a b 1",
                 "clear a b", "clear b c", "clear a", "clear b a 0", "clear b a ", "clear  b a", "clear a a", "clear b d", "clear", "mark", "put a b 1",
                 "mark\ta b 1", "clear b a\r", "mark a b 1\r", "undo", "mark a b " + "9" * 5000, "mark a b 2_0", "clear ab", "row a 1", "mark A b 1"]
        for line in wrong:
            for many in range(4):
                if (line, many) in [("clear a b", 1), ("clear a b", 2)]:
                    continue
                self.refused_at(many, "\n".join(good[:many] + [line]) if many or line else "\n")
                self.refused_at(many, "\n".join(good[:many] + [line, "wrong again"]))
        self.refused_at(3, "\n".join(good) + "\n")
        self.refused_at(0, "\n" + "\n".join(good))

    def test_what_was_taken_back_is_not_told(self):
        live = self.live
        live["a", "b"] = 2
        live["b", "a"] = 1
        live.undo()
        live["c", "a"] = 1
        live.clear(("a", "b"))
        live.undo()
        self.assertEqual(live.journal(), "mark a b 2\nmark c a 1")

    def test_long(self):
        live = self.live
        for at in range(3000):
            live["a", "b"] = at % 3
        again = Live.read(self.rule, live.journal())
        self.assertEqual(again.journal(), live.journal())
        self.assertEqual(again, live)


class EqualTest(LiveCase):
    def test_rules_and_pages(self):
        live, other = self.live, Live(Rule(crowd_of(3, 2)))
        self.assertIs(live == other, True)
        self.assertIs(live != other, False)
        live["a", "b"] = 1
        self.assertIs(live == other, False)
        other["a", "b"] = 2
        self.assertIs(live == other, False)
        other["a", "b"] = 1
        self.assertIs(live == other, True)
        unlike = [Live(self.rule.changed(prizes=1)), Live(self.rule.changed(gather="mean")), Live(Rule(crowd_of(3, 1))),
                  Live(self.rule.changed(reads=[("a", "b"), ("b", "a"), ("a", "c")]))]
        for one in unlike:
            one["a", "b"] = 1
            self.assertIs(live == one, False)

    def test_any_value(self):
        for value in [value for value in ODD if not isinstance(value, Alike)] + [self.rule, self.live.page, self.live.trial()]:
            self.assertIs(self.live == value, False)
            self.assertIs(self.live != value, True)

    def test_copies(self):
        live = self.live
        live["a", "b"] = 1
        live["b", "a"] = 2
        live.undo()
        copy = live.copied()
        self.assertIs(type(copy), Live)
        self.assertIsNot(copy, live)
        self.assertEqual(copy, live)
        self.assertEqual(what_is(copy), what_is(live))
        before = what_is(live)
        copy.redo()
        copy["c", "a"] = 1
        self.assertEqual(what_is(live), before)
        before = what_is(copy)
        live["a", "b"] = 0
        live.undo()
        live.undo()
        self.assertEqual(what_is(copy), before)
        copy.undo()
        copy.undo()
        copy.undo()
        self.assertEqual(copy, live)


class ModelTest(LiveCase):
    """Changes by lot, beside a round that keeps the marks behind each change."""

    def test_by_lot(self):
        chance = random.Random(124)
        for _ in range(60):
            live = Live(some_rule(crowd_of(chance.randint(2, 4), 2), chance))
            pairs = live.rule.crowd.pairs()
            states, lines, at = [{}], [], 0
            for _ in range(60):
                pair, mark, way = chance.choice(pairs), chance.randint(0, 2), chance.randrange(6)
                if way < 3 or way == 3 and pair in states[at]:
                    state = dict(states[at])
                    if way < 3:
                        state[pair] = mark
                        live.put(pair, mark)
                        line = f"mark {pair[0]} {pair[1]} {mark}"
                    else:
                        del state[pair]
                        live.clear(pair)
                        line = f"clear {pair[0]} {pair[1]}"
                    states, lines, at = states[:at + 1] + [state], lines[:at] + [line], at + 1
                elif way == 3:
                    self.assertRaises(BadPair, live.clear, pair)
                elif way == 4 and at == 0:
                    self.assertRaises(NothingLeft, live.undo)
                elif way == 5 and at == len(states) - 1:
                    self.assertRaises(NothingLeft, live.redo)
                else:
                    (live.undo if way == 4 else live.redo)()
                    at += -1 if way == 4 else 1
                self.assertEqual(marks_of(live), states[at])
                self.assertEqual(live.journal(), "\n".join(lines[:at]))
                self.assertEqual((len(live), live.is_full), (len(states[at]), len(states[at]) == len(pairs)))
                self.assertEqual(live.left(), [one for one in pairs if one not in states[at]])
                self.assertEqual(Live.read(live.rule, live.journal()), live)
            self.assertEqual(live.page, page_of(live.rule.crowd, [states[at].get(pair) for pair in pairs]))


if __name__ == "__main__":
    unittest.main()
