"""Promise 23: sessions, which edit a rule."""

import random
import unittest

from ownmarks.crowds import Crowd
from ownmarks.errors import BadArgument, BadChange, BadPair, BadRule, MarksError, NothingLeft
from ownmarks.pages import Page
from ownmarks.rules import Rule
from ownmarks.sessions import Session
from ownmarks.web import is_safe
from tests.helping import GATHERS, ODD, TURNS, Alike, RefusingCase, crowd_of, odd_without, some_lists, some_rule

NO_PAIRS = odd_without() + [("a", "d"), ("a", "a"), ("a", "b", "c"), ["a", "b"], "ab", ("a",), (Alike(), "b"), ("a", Alike())]
NO_PARTS = odd_without() + ["crowd", "rule", "Turn", "turn ", "cut", "people", b"turn", ("turn",), ["turn"], Alike()]


def state(session):
    """What a session is: the rule, and the rules that undo and redo lead to; it is led there and back again."""
    done, undone = [], []
    while len(session):
        session.undo()
        done.append(session.rule)
    for _ in done:
        session.redo()
    here = session.rule
    while True:
        try:
            session.redo()
        except NothingLeft:
            break
        undone.append(session.rule)
    for _ in undone:
        session.undo()
    assert session.rule == here
    return here, done, undone


class EditsTest(unittest.TestCase):
    def setUp(self):
        self.rule = Rule(crowd_of(4, 2), lists=[["a", "b"], ["c", "d"]], prizes=1)
        self.session = Session(self.rule)

    def test_beginning(self):
        self.assertEqual((self.session.rule, len(self.session), self.session.cut), (self.rule, 0, 1))
        self.assertEqual(state(self.session), (self.rule, [], []))
        turned = Rule(crowd_of(3, 1), turn="placed", gather="mean")
        self.assertEqual(Session(rule=turned).rule, turned)

    def test_pairs(self):
        session = self.session
        for pair in self.rule.crowd.pairs():
            self.assertIs(session[pair], True)
        session["a", "b"] = False
        self.assertIs(session["a", "b"], False)
        self.assertIs(session["b", "a"], True)
        self.assertEqual(session.rule, self.rule.changed(reads=[pair for pair in self.rule.reads if pair != ("a", "b")]))
        # What leaves all as it was is an edit, too.
        session["a", "b"] = False
        session["c", "a"] = True
        self.assertEqual(len(session), 3)
        session["a", "b"] = True
        self.assertEqual((session.rule, len(session)), (self.rule, 4))

    def test_all_pairs_unread(self):
        session = Session(self.rule.changed(lists=[["a"], ["b"], ["c"], ["d"]]))
        for pair in self.rule.crowd.pairs():
            session[pair] = False
        self.assertEqual((session.rule.reads, len(session)), ([], 12))

    def test_more_pairs_at_once(self):
        rule = self.rule.changed(reads=[("c", "a"), ("c", "b"), ("a", "c"), ("a", "d")])
        session = same = Session(rule)
        session |= [("b", "c"), ("a", "c"), ("b", "a")]
        self.assertIs(session, same)
        self.assertEqual(len(session), 1)
        self.assertEqual(session.rule.reads, [("a", "c"), ("a", "d"), ("b", "a"), ("b", "c"), ("c", "a"), ("c", "b")])
        session |= (("b", "c"), ("a", "c"))
        session |= []
        session |= ()
        self.assertEqual(len(session), 4)
        self.assertEqual(len(session.rule), 6)
        session.undo()
        session.undo()
        session.undo()
        session.undo()
        self.assertEqual(session.rule, rule)

    def test_cut(self):
        self.session.cut = 8
        self.assertEqual((self.session.cut, self.session.rule, len(self.session)), (8, self.rule.changed(prizes=8), 1))
        self.session.cut = 8
        self.session.cut = 0
        self.assertEqual((self.session.cut, len(self.session)), (0, 3))

    def test_change(self):
        session, rule = self.session, self.rule
        self.assertIs(session.change("prizes", 3), None)
        session.change("gather", "median")
        self.assertEqual(session.rule, rule.changed(prizes=3, gather="median"))
        session.change("gather", "mean")
        session.change("turn", "centred")
        self.assertEqual(session.rule, rule.changed(prizes=3, gather="mean", turn="centred"))
        session.change("lists", (("d", "b", "c"), ["a"]))
        session.change("reads", [("a", "b"), ("b", "c"), ("c", "d")])
        self.assertEqual(session.rule, rule.changed(prizes=3, gather="mean", turn="centred", lists=[["a"], ["b", "c", "d"]],
                                                    reads=[("a", "b"), ("b", "c"), ("c", "d")]))
        self.assertEqual(len(session), 6)
        session.change(value="plain", part="turn")
        self.assertEqual(session.rule.turn, "plain")

    def test_gather_and_trim(self):
        session = Session(Rule(crowd_of(8, 1)))
        for trim in (1, 2, 3):
            session.change("trim", trim)
            self.assertEqual((session.rule.gather, session.rule.trim), ("trim", trim))
        # A gather goes with trim 0, whatever trim was.
        session.change("gather", "least")
        self.assertEqual((session.rule.gather, session.rule.trim, len(session)), ("least", 0, 4))
        session.change("trim", 2)
        self.assertEqual((session.rule.gather, session.rule.trim), ("trim", 2))

    def test_none_is_taken_as_rule_takes_it(self):
        session = Session(self.rule.changed(reads=[("c", "a"), ("c", "b"), ("a", "c"), ("a", "d")]))
        session.change("reads", None)
        self.assertEqual(session.rule, self.rule)
        session.change("lists", None)
        self.assertEqual(session.rule, Rule(crowd_of(4, 2), prizes=1))
        for part in ("turn", "gather", "prizes", "trim"):
            with self.assertRaises(BadRule) as caught:
                session.change(part, None)
            self.assertEqual(caught.exception.part, part)
        with self.assertRaises(BadRule):
            session.cut = None
        self.assertEqual(len(session), 2)

    def test_iteration(self):
        with self.assertRaises(TypeError):
            iter(self.session)
        with self.assertRaises(TypeError):
            list(self.session)

    def test_what_was_told_or_given_stays(self):
        told = self.session.rule
        reads, lists = [("c", "a"), ("c", "b"), ("a", "c"), ("a", "d")], [["a", "b"], ["c", "d"]]
        other = Session(self.rule)
        self.session.change("reads", reads)
        self.session.change("lists", lists)
        before = self.session.rule
        reads.clear()
        lists[0].append("z")
        more = [("d", "a")]
        self.session |= more
        more.clear()
        self.assertEqual((told, self.rule.prizes, other.rule), (self.rule, 1, self.rule))
        self.assertEqual((len(before), len(self.session.rule), self.session.rule.lists), (4, 5, [["a", "b"], ["c", "d"]]))
        self.session.rule.reads.clear()
        self.assertEqual(len(self.session.rule), 5)
        self.assertEqual(len(other), 0)


class UndoTest(RefusingCase):
    def test_undo_and_redo(self):
        rule = Rule(crowd_of(3, 2))
        session = Session(rule)
        for prizes in (1, 2, 2, 3):
            session.cut = prizes
        for left, prizes in [(3, 2), (2, 2), (1, 1), (0, 0)]:
            self.assertIs(session.undo(), None)
            self.assertEqual((len(session), session.cut), (left, prizes))
        self.nothing_left(session.undo)
        for left, prizes in [(1, 1), (2, 2)]:
            self.assertIs(session.redo(), None)
            self.assertEqual((len(session), session.cut), (left, prizes))
        # Another edit: what was taken back cannot be made again.
        session["a", "b"] = True
        self.nothing_left(session.redo)
        session.undo()
        session.redo()
        self.assertEqual((len(session), session.cut), (3, 2))

    def nothing_left(self, call):
        with self.assertRaises(NothingLeft):
            call()

    def test_by_lot(self):
        chance = random.Random(231)
        for _ in range(60):
            crowd = crowd_of(chance.randint(1, 5), chance.randint(1, 3))
            session = Session(some_rule(crowd, chance))
            done, undone = [session.rule], []
            for _ in range(40):
                kind = chance.randrange(8)
                before = session.rule
                try:
                    if kind == 0:
                        session.undo()
                        undone.append(done.pop())
                    elif kind == 1:
                        session.redo()
                        done.append(undone.pop())
                    else:
                        self.edit(session, crowd, kind, chance)
                        done.append(session.rule)
                        undone = []
                except NothingLeft:
                    self.assertEqual(len(done) if kind == 0 else len(undone), 1 if kind == 0 else 0)
                except BadRule:
                    self.assertEqual(session.rule, before)
                self.assertEqual((session.rule, len(session), session.cut), (done[-1], len(done) - 1, session.rule.prizes))
            self.assertEqual(state(session), (done[-1], done[:-1][::-1], undone[::-1]))

    def edit(self, session, crowd, kind, chance):
        pairs = crowd.pairs()
        if kind == 2 and pairs:
            session[chance.choice(pairs)] = chance.choice([True, False])
        elif kind == 3:
            session |= chance.sample(pairs, chance.randint(0, len(pairs)))
        elif kind == 4:
            session.cut = chance.randint(0, 9)
        elif kind == 5:
            session.change("turn", chance.choice(TURNS))
        elif kind == 6:
            session.change("lists", some_lists(crowd.people, chance))
        else:
            session.change(*chance.choice([("gather", chance.choice(GATHERS)), ("trim", chance.randint(0, 2))]))


class RefusedTest(RefusingCase):
    def setUp(self):
        self.crowd = crowd_of(3, 2)
        self.session = Session(Rule(self.crowd, reads=[("a", "b"), ("b", "c"), ("c", "a")], lists=[["a", "b"], ["c"]]))
        for prizes in (1, 2, 3):
            self.session.cut = prizes
        self.session.undo()
        self.before = state(self.session)

    def tearDown(self):
        self.assertEqual(state(self.session), self.before)

    def test_rule(self):
        for value in ODD + [self.crowd, Page.filled(self.crowd, 1), self.session]:
            self.refused(BadArgument, "value", value, Session, value)
            self.refused(BadArgument, "value", value, Session, rule=value)

    def put(self, pair, value):
        self.session[pair] = value

    def unite(self, value):
        session = self.session
        session |= value

    def test_pair(self):
        for value in NO_PAIRS:
            self.refused(BadPair, "value", value, lambda: self.session[value])
            for worth in (True, False, None, 1):
                self.refused(BadPair, "value", value, self.put, value, worth)

    def test_value(self):
        for value in odd_without(True, False) + [0, 1, 1.0, None, "True", (True,), Alike()]:
            self.refused(BadArgument, "value", value, self.put, ("a", "b"), value)
            self.refused(BadArgument, "value", value, self.put, ("a", "c"), value)

    def test_pairs(self):
        good = [[], ()]
        for value in odd_without(*good) + [[("a", "b"), ("a", "b")], [("a", "d")], [("a", "b"), None], {("a", "b")}, {("a", "b"): 1}, ("a", "b"),
                                           (("a", "a"),), [["a", "b"]], iter([("a", "b")]), self.session.rule, Alike()]:
            self.refused(BadArgument, "value", value, self.unite, value)

    def test_part(self):
        for value in NO_PARTS:
            self.refused(BadArgument, "value", value, self.session.change, value, 1)
            self.refused(BadArgument, "value", value, self.session.change, value=None, part=value)

    def bad_rule(self, part, call, *given):
        with self.assertRaises(BadRule) as caught:
            call(*given)
        self.assertEqual(caught.exception.part, part)

    def cut(self, value):
        self.session.cut = value

    def test_what_the_rule_cannot_be(self):
        # b and a must keep a reader each, c needs none.
        self.bad_rule("lists", self.put, ("a", "b"), False)
        self.bad_rule("lists", self.session.change, "reads", [("a", "b")])
        self.bad_rule("lists", self.session.change, "trim", 1)
        self.bad_rule("trim", self.session.change, "gather", "trim")
        for value in odd_without() + ["Sum", "sums"]:
            self.bad_rule("turn", self.session.change, "turn", value)
            self.bad_rule("gather", self.session.change, "gather", value)
            self.bad_rule("prizes", self.session.change, "prizes", value)
            self.bad_rule("prizes", self.cut, value)
            self.bad_rule("trim", self.session.change, "trim", value)
        for value in odd_without(None, [], ()) + [[("a", "a")], [("a", "b"), ("a", "b")]]:
            self.bad_rule("reads", self.session.change, "reads", value)
        for value in odd_without(None) + [[["a", "b"]], [["a", "b", "c"], []], [["a", "b"], ["b", "c"]]]:
            self.bad_rule("lists", self.session.change, "lists", value)

    def test_parts_that_do_not_go_together(self):
        session = Session(Rule(crowd_of(4, 1), gather="trim", trim=1))
        self.bad_rule("gather", session.change, "turn", "placed")
        session.change("gather", "sum")
        session.change("turn", "placed")
        self.bad_rule("gather", session.change, "trim", 1)
        self.bad_rule("gather", session.change, "gather", "median")
        self.assertEqual(len(session), 2)


class Fault(BaseException):
    """Something that leaves a block."""


class TrialTest(unittest.TestCase):
    def setUp(self):
        self.session = Session(Rule(crowd_of(3, 2)))
        for prizes in (1, 2, 3):
            self.session.cut = prizes
        self.session.undo()
        self.before = state(self.session)

    def test_without_an_error(self):
        with self.session.trial() as told:
            self.assertIs(told, self.session)
            told.cut = 5
            told["a", "b"] = False
        self.assertEqual((self.session.cut, len(self.session)), (5, 4))
        with self.session.trial():
            self.session.undo()
        self.assertEqual((self.session.cut, len(self.session)), (5, 3))
        self.session.redo()
        self.assertEqual(len(self.session), 4)

    def test_an_error_that_leaves_the_block(self):
        for error in (Fault, ValueError, NothingLeft, KeyboardInterrupt):
            with self.assertRaises(error):
                with self.session.trial() as told:
                    told.cut = 7
                    told.change("gather", "least")
                    raise error()
            self.assertEqual(state(self.session), self.before)
            with self.assertRaises(error):
                with self.session.trial() as told:
                    told.undo()
                    told.undo()
                    told |= [("a", "b")]
                    raise error()
            self.assertEqual(state(self.session), self.before)
            with self.assertRaises(error):
                with self.session.trial() as told:
                    told.redo()
                    raise error()
            self.assertEqual(state(self.session), self.before)

    def test_an_error_that_stays_in_the_block(self):
        with self.session.trial() as told:
            told.cut = 7
            with self.assertRaises(BadRule):
                told.cut = 9
        self.assertEqual((self.session.cut, len(self.session)), (7, 3))

    def test_one_behind_another(self):
        # The same trial again: each time it keeps what the session is at the beginning of the block.
        trial = self.session.trial()
        self.session.cut = 4
        before = state(self.session)
        for _ in range(3):
            with self.assertRaises(Fault):
                with trial as told:
                    told.cut = 8
                    told.cut = 0
                    raise Fault()
            self.assertEqual(state(self.session), before)
        with trial as told:
            told.cut = 6
        before = state(self.session)
        self.assertEqual((self.session.cut, len(self.session)), (6, 4))
        with self.assertRaises(Fault):
            with trial:
                self.session.undo()
                self.session.undo()
                raise Fault()
        self.assertEqual(state(self.session), before)
        # What comes behind a block that was left is an edit like others.
        self.session.cut = 1
        self.session.undo()
        self.assertEqual(self.session.cut, 6)
        self.session.redo()
        self.assertEqual((self.session.cut, len(self.session)), (1, 5))

    def test_one_in_another(self):
        with self.assertRaises(Fault):
            with self.session.trial() as told:
                told.cut = 7
                with self.assertRaises(ValueError):
                    with told.trial():
                        told.cut = 8
                        raise ValueError
                self.assertEqual((told.cut, len(told)), (7, 3))
                raise Fault
        self.assertEqual(state(self.session), self.before)


class TriedTest(RefusingCase):
    def setUp(self):
        self.rule = Rule(crowd_of(4, 2), lists=[["a", "b"], ["c", "d"]])
        self.session = Session(self.rule)
        self.session.cut = 1
        self.session.cut = 2
        self.session.undo()

    def test_ordinary(self):
        changes = [("reads", [("c", "a"), ("c", "b"), ("a", "c"), ("a", "d")]), ("gather", "mean"), ("lists", None), ("reads", None)]
        self.assertEqual(self.session.tried(changes), [True, True, False, False])
        self.assertEqual(len(self.session), 5)
        self.assertEqual(self.session.rule, Rule(crowd_of(4, 2), gather="mean", prizes=1))
        for safe in [False, True, True, False]:
            self.session.undo()
            self.assertIs(is_safe(self.session.rule), safe)
        self.assertEqual(self.session.cut, 1)
        with self.assertRaises(NothingLeft):
            self.session.undo()
            self.session.undo()
        self.assertEqual(Session(self.rule).tried(changes=tuple(changes)), [True, True, False, False])

    def test_nothing_to_change(self):
        before = state(self.session)
        self.assertEqual((self.session.tried([]), self.session.tried(())), ([], []))
        # No edit came, so that the one that was taken back can be made again.
        self.assertEqual(state(self.session), before)
        self.session.redo()
        self.assertEqual(self.session.cut, 2)

    def test_by_lot(self):
        chance = random.Random(232)
        for _ in range(100):
            session, other = Session(some_rule(crowd_of(4, 1), chance)), None
            other = Session(session.rule)
            changes = [chance.choice([("gather", chance.choice(GATHERS)), ("turn", chance.choice(TURNS)), ("prizes", chance.randint(0, 9)),
                                      ("lists", some_lists(session.rule.crowd.people, chance)), ("trim", chance.randint(0, 2)),
                                      ("reads", chance.sample(session.rule.crowd.pairs(), 9))]) for _ in range(3)]
            told, wrong = [], None
            for change in changes:
                try:
                    other.change(*change)
                except MarksError as error:
                    wrong = (change, error)
                    break
                told.append(is_safe(other.rule))
            if wrong is None:
                self.assertEqual(session.tried(changes), told)
                self.assertEqual(state(session), state(other))
                continue
            before = state(session)
            with self.assertRaises(BadChange) as caught:
                session.tried(changes)
            self.assertIs(caught.exception.value, wrong[0])
            self.assertEqual((type(caught.exception.__cause__), caught.exception.__cause__.part), (type(wrong[1]), wrong[1].part))
            self.assertEqual(state(session), before)

    def test_no_changes(self):
        before = state(self.session)
        for value in odd_without([], (), ["a"], ["a", "b"], ("a",), ("a", "a"), ("a", "b", "c"), ("a", "zz"), ("zz", "a"), ("a", 1), (True, "a"),
                                 ("a", ["b"]), (["a"], "b"), [["a"]]) + [{"turn": "plain"}, iter([("turn", "plain")]), "turn"]:
            self.refused(BadArgument, "value", value, self.session.tried, value)
            self.refused(BadArgument, "value", value, self.session.tried, changes=value)
        self.assertEqual(state(self.session), before)

    def test_no_change(self):
        before = state(self.session)
        for value in ODD + [["turn", "plain"], ("turn",), ("turn", "plain", 0), {"turn": "plain"}, "ab", Alike()]:
            if isinstance(value, tuple) and len(value) == 2:
                continue
            for changes in ([value], (value,), [("prizes", 3), value, ("prizes", 9)], [value, value]):
                with self.assertRaises(BadChange) as caught:
                    self.session.tried(changes)
                self.assertIs(caught.exception.value, value)
                self.assertIs(caught.exception.__cause__, None)
        self.assertEqual(state(self.session), before)

    def test_what_cannot_be_made(self):
        before = state(self.session)
        wrong = [(("prizes", 9), BadRule), (("turn", "even"), BadRule), (("nothing", 1), BadArgument), ((None, None), BadArgument),
                 (([], 1), BadArgument), ((Alike(), 1), BadArgument), (("gather", "trim"), BadRule), (("reads", []), BadRule)]
        for change, kind in wrong:
            for changes in ([change], [("prizes", 3), ("gather", "mean"), change], (change, ("prizes", 10), None), [("prizes", 8), change, change]):
                with self.assertRaises(BadChange) as caught:
                    self.session.tried(changes)
                self.assertIs(caught.exception.value, change)
                self.assertIs(type(caught.exception.__cause__), kind)
                self.assertEqual(state(self.session), before)

    def test_a_change_that_cannot_be_made_behind_another_one(self):
        # Median goes with plain rows alone.
        with self.assertRaises(BadChange) as caught:
            self.session.tried([("turn", "placed"), ("gather", "median"), ("turn", "plain")])
        self.assertEqual(caught.exception.value, ("gather", "median"))
        self.assertEqual(caught.exception.__cause__.part, "gather")
        self.assertEqual(self.session.tried([("turn", "plain"), ("gather", "median")]), [False, False])

    def test_told_lists_belong_to_the_caller(self):
        told = self.session.tried([("prizes", 3)])
        told.clear()
        changes = [("prizes", 4)]
        self.session.tried(changes)
        self.assertEqual((changes, self.session.cut), ([("prizes", 4)], 4))


class CrowdOfOneTest(unittest.TestCase):
    def test_one_person(self):
        session = Session(Rule(Crowd(["a"], 1)))
        session |= []
        session.change("lists", [["a"]])
        self.assertEqual((len(session), session.rule), (2, Rule(Crowd(["a"], 1))))
        with self.assertRaises(BadPair):
            session["a", "a"] = True


if __name__ == "__main__":
    unittest.main()
