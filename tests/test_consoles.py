"""Promise 23: consoles, sessions that are led by lines."""

import random
import unittest

from ownmarks.agreements import arrows, fewest
from ownmarks.consoles import Console
from ownmarks.crowds import Crowd
from ownmarks.drops import inner_pairs
from ownmarks.errors import BadArgument, BadCommand, BadPair, BadRule, NothingLeft, NotThere
from ownmarks.pages import Page
from ownmarks.rules import Rule
from ownmarks.sessions import Session
from ownmarks.swings import lifts
from ownmarks.web import is_safe, own_reads
from tests.helping import GATHERS, ODD, TURNS, RefusingCase, crowd_of, odd_without, small_rules, some_rule

ASKED = ["people", "lists", "reads", "lifts", "safe", "fewest", "arrows", "inner"]
ASKED_OF_PLAIN_ROWS = ["lifts", "fewest", "arrows", "inner"]


def in_one_line(texts):
    return [" ".join(texts) or "-"]


def plain_answers(rule):
    """What a console with this rule answers to each line that asks, by the words of promise 23."""
    told = {"people": in_one_line(rule.crowd.people), "lists": [" ".join(members) for members in rule.lists],
            "reads": in_one_line([f"{pair[0]}:{pair[1]}" for pair in rule.reads]), "safe": ["yes" if is_safe(rule) else "no"]}
    for person in rule.crowd:
        told["own " + person] = in_one_line([f"{pair[0]}:{pair[1]}" for pair in own_reads(rule, person)])
    if rule.turn == "plain":
        told["lifts"] = [f"{person} {places}" for person, places in lifts(rule).items()]
        told["fewest"] = ["-" if fewest(rule) is None else str(fewest(rule))]
        told["arrows"] = in_one_line([f"{start}:{aim}" for start, aim in arrows(rule)])
        told["inner"] = in_one_line([f"{pair[0]}:{pair[1]}" for pair in inner_pairs(rule)])
        for person, places in lifts(rule).items():
            told["lift " + person] = [str(places)]
    return told


class AskedTest(unittest.TestCase):
    def test_ordinary(self):
        rule = Rule(Crowd(["ann", "bo", "cy", "dee"], 2), lists=[["ann", "cy"], ["bo", "dee"]], gather="mean",
                    reads=[("ann", "bo"), ("bo", "dee"), ("bo", "ann"), ("dee", "cy"), ("ann", "cy")])
        console = Console(rule)
        self.assertEqual((console.rule, len(console)), (rule, 0))
        for line, told in [("people", ["ann bo cy dee"]), ("lists", ["ann cy", "bo dee"]), ("reads", ["ann:bo ann:cy bo:ann bo:dee dee:cy"]),
                           ("own ann", ["ann:cy"]), ("own cy", ["-"]), ("lift ann", ["1"]), ("lift dee", ["0"]),
                           ("lifts", ["ann 1", "bo 1", "cy 0", "dee 0"]), ("safe", ["no"]), ("fewest", ["1"]),
                           ("arrows", ["0:0 0:1 1:0 1:1"]), ("inner", ["ann:cy bo:dee"])]:
            self.assertEqual(console.execute(line), told)
            self.assertEqual(console(line), told)
            self.assertEqual(console.execute(line=line), told)
            self.assertEqual(console(line=line), told)
        self.assertEqual((console.rule, len(console)), (rule, 0))

    def test_nothing_to_tell(self):
        console = Console(Rule(crowd_of(2, 1), lists=[["a"], ["b"]], reads=[]))
        for line, told in [("reads", ["-"]), ("own a", ["-"]), ("fewest", ["-"]), ("arrows", ["-"]), ("inner", ["-"]), ("safe", ["yes"]),
                           ("lifts", ["a 0", "b 0"]), ("lists", ["a", "b"]), ("people", ["a b"])]:
            self.assertEqual(console(line), told)

    def test_by_lot(self):
        chance = random.Random(241)
        rules = list(small_rules(60, 242)) + [some_rule(crowd_of(chance.randint(1, 8), 3), chance, TURNS[at % 3]) for at in range(60)]
        for rule in rules:
            console = Console(rule=rule)
            for line, told in plain_answers(rule).items():
                self.assertEqual(console.execute(line), told)
                self.assertTrue(all(isinstance(text, str) for text in console(line)))

    def test_told_lists_belong_to_the_caller(self):
        console = Console(Rule(crowd_of(3, 2)))
        for line in ASKED + ["own a", "lift a"]:
            told = console(line)
            again = list(told)
            told.clear()
            self.assertEqual(console(line), again)


class EditedTest(unittest.TestCase):
    def test_ordinary(self):
        rule = Rule(crowd_of(4, 2))
        console = Console(rule)
        self.assertEqual(console("unread a:b"), ["1"])
        self.assertEqual(console.rule, rule.changed(reads=[pair for pair in rule.reads if pair != ("a", "b")]))
        for line, many, made in [("read a:b", 2, rule), ("read a:b", 3, rule), ("gather median", 4, rule.changed(gather="median")),
                                 ("trim 1", 5, rule.changed(gather="trim", trim=1)), ("gather mean", 6, rule.changed(gather="mean")),
                                 ("prizes 8", 7, rule.changed(gather="mean", prizes=8)),
                                 ("turn placed", 8, rule.changed(gather="mean", prizes=8, turn="placed")),
                                 ("prizes 0", 9, rule.changed(gather="mean", turn="placed")),
                                 ("undo", 8, rule.changed(gather="mean", prizes=8, turn="placed")),
                                 ("undo", 7, rule.changed(gather="mean", prizes=8)), ("undo", 6, rule.changed(gather="mean")),
                                 ("redo", 7, rule.changed(gather="mean", prizes=8)), ("turn plain", 8, rule.changed(gather="mean", prizes=8))]:
            self.assertEqual(console.execute(line), [str(many)])
            self.assertEqual((console.rule, len(console)), (made, many))
        self.assertEqual([console("undo") for _ in range(8)], [[str(many)] for many in range(7, -1, -1)])
        self.assertEqual(console.rule, rule)
        self.assertEqual([console("redo") for _ in range(8)][-1], ["8"])

    def test_trims_and_gathers(self):
        console = Console(Rule(crowd_of(8, 1)))
        for trim in (1, 2, 3):
            self.assertEqual(console(f"trim {trim}"), [str(trim)])
            self.assertEqual((console.rule.gather, console.rule.trim), ("trim", trim))
        for at, gather in enumerate(one for one in GATHERS if one != "trim"):
            self.assertEqual(console("gather " + gather), [str(4 + at)])
            self.assertEqual((console.rule.gather, console.rule.trim), (gather, 0))

    def test_ten_edits_and_more(self):
        console = Console(Rule(crowd_of(2, 1)))
        self.assertEqual([console("prizes 1") for _ in range(12)][-3:], [["10"], ["11"], ["12"]])

    def test_a_console_is_a_session(self):
        console = Console(Rule(crowd_of(3, 2)))
        self.assertIsInstance(console, Session)
        console["a", "b"] = False
        console("prizes 2")
        self.assertEqual((console.cut, len(console), console["a", "b"]), (2, 2, False))
        with self.assertRaises(ValueError):
            with console.trial() as told:
                told("prizes 3")
                raise ValueError
        self.assertEqual((console("undo"), console("redo"), console.cut), (["1"], ["2"], 2))

    def test_what_was_told_stays(self):
        rule = Rule(crowd_of(3, 2))
        console, other = Console(rule), Console(rule)
        told = console.rule
        console("unread a:b")
        self.assertEqual((told, other.rule, len(told)), (rule, rule, 6))


class RefusedTest(RefusingCase):
    def setUp(self):
        self.rule = Rule(crowd_of(3, 2), lists=[["a", "b"], ["c"]], reads=[("a", "b"), ("b", "c"), ("c", "a")])
        self.console = Console(self.rule)

    def bad(self, line, cause=None, console=None):
        console = self.console if console is None else console
        before, many = console.rule, len(console)
        for call in (console, console.execute):
            with self.assertRaises(BadCommand) as caught:
                call(line)
            self.assertIs(caught.exception.command, line)
            self.assertIs(type(caught.exception.__cause__), cause or type(None))
            self.assertEqual((console.rule, len(console)), (before, many))

    def test_rule(self):
        for value in ODD + [crowd_of(2, 1), Page.filled(crowd_of(2, 1), 1), self.console]:
            self.refused(BadArgument, "value", value, Console, value)
            self.refused(BadArgument, "value", value, Console, rule=value)

    def test_any_value(self):
        for value in odd_without() + ["people".encode(), ["people"], ("people",), 0]:
            self.bad(value)

    def test_no_commands(self):
        for line in ["", " ", "-", "help", "list", "read", "unread", "own", "lift", "gather", "trim", "prizes", "turn", "people a", "lists a", "reads -",
                     "lifts a", "safe 1", "fewest 1", "arrows a", "inner a", "undo 1", "redo 1", "own a b", "lift a b", "read a:b c", "gather sum 1",
                     "trim 1 2", "prizes 1 1", "turn plain plain", "people lists", "own a:b", "lift a:b", "read a", "read ab", "read a b", "read a:b:c",
                     "read a:", "read :b", "read :", "unread a-b", "a:b", "cut 1", "people;", "people\n", "\npeople", "own a\n", "prizes 1\n", "people\t"]:
            self.bad(line)

    def test_blanks_and_capitals(self):
        good = ASKED + ["own a", "lift a", "read a:b", "unread b:c", "gather mean", "trim 1", "prizes 1", "turn plain", "undo", "redo"]
        for line in good:
            for wrong in [" " + line, line + " ", "  " + line, line.upper(), line.capitalize(), line.replace(" ", "  "), line.replace(" ", "\t"),
                          line.replace(":", " : "), line.replace(":", ": ")]:
                if wrong != line:
                    self.bad(wrong)
        for line in ["own A", "lift A", "read A:b", "read a:B", "gather Mean", "turn PLAIN", "own ninesigns", "gather ninesigns", "own a1", "turn a-b"]:
            self.bad(line)

    def test_numbers_are_one_figure(self):
        for head in ("trim", "prizes"):
            for word in ["10", "01", "-1", "+1", "1.", "x", "one", "\u0661", "\u00b2", "", "1_", "True"]:
                self.bad(f"{head} {word}")

    def test_what_cannot_be_asked(self):
        for word in ("d", "zz", "people"):
            self.bad("own " + word, NotThere)
            self.bad("lift " + word, NotThere)
        for turn in ("centred", "placed"):
            console = Console(self.rule.changed(turn=turn))
            for line in ASKED_OF_PLAIN_ROWS + ["lift a"]:
                self.bad(line, BadArgument, console)
            for line in ("people", "lists", "reads", "safe", "own a"):
                self.assertEqual(console(line), plain_answers(console.rule)[line])

    def test_what_cannot_be_done(self):
        for line in ("read a:a", "unread a:a", "read a:d", "unread zz:a"):
            self.bad(line, BadPair)
        for line in ("unread a:b", "unread c:a", "gather trim", "gather sums", "turn even", "trim 0", "trim 4", "trim 1", "prizes 9"):
            self.bad(line, BadRule)
        self.bad("undo", NothingLeft)
        self.bad("redo", NothingLeft)
        self.console("prizes 3")
        self.bad("redo", NothingLeft)
        self.console("turn centred")
        for line in ("gather median", "gather least", "trim 1"):
            self.bad(line, BadRule)
        self.console("undo")
        # What cannot be done takes nothing away from what redo can make.
        for line in ("prizes 9", "undo 1", "read a:a", "lift zz", "people "):
            with self.assertRaises(BadCommand):
                self.console(line)
        self.assertEqual((self.console("redo"), self.console.rule.turn), (["2"], "centred"))

    def test_causes(self):
        for line, field, value in [("own zz", "word", "zz"), ("read a:a", "value", ("a", "a")), ("prizes 9", "part", "prizes"), ("trim 4", "part", "trim"),
                                   ("trim 1", "part", "lists"), ("gather trim", "part", "trim"), ("turn odd", "part", "turn")]:
            with self.assertRaises(BadCommand) as caught:
                self.console(line)
            self.assertEqual(getattr(caught.exception.__cause__, field), value)


if __name__ == "__main__":
    unittest.main()
