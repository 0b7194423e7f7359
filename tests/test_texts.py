"""Promise 16, texts: rules and pages as texts, and back."""

import itertools
import random
import unittest

from ownmarks.crowds import Crowd
from ownmarks.errors import BadArgument, BadText, MarksError
from ownmarks.pages import Page
from ownmarks.rules import Rule
from ownmarks.texts import page_text, read_page, read_rule, rule_text
from tests.helping import GATHERED, ODD, TURNS, RefusingCase, crowd_of, some_page, some_rule

RULE = "crowd 3 ann bob cy\nturn plain\ngather trim 1\nprizes 2\nlist ann\nlist bob\nlist cy\nread ann bob cy\nread cy ann"
PAGE = "crowd 3 ann bob cy\nrow ann 0 3\nrow bob - 1\nrow cy 2 -"
SIGNS = "abcz0123456789- \n\t\r_+ABtrowliscngp\u00e9\u0661"


def plain_rule_text(rule):
    """The text of a rule, by the words of promise 16."""
    told = "crowd " + str(rule.crowd.most)
    for person in rule.crowd:
        told += " " + person
    told += "\nturn " + rule.turn + "\ngather " + rule.gather
    if rule.gather == "trim":
        told += " " + str(rule.trim)
    told += "\nprizes " + str(rule.prizes)
    for members in rule.lists:
        told += "\nlist"
        for person in members:
            told += " " + person
    for person in rule.crowd:
        words = [marked for marker, marked in rule.reads if marker == person]
        if words:
            told += "\nread " + person + "".join(" " + word for word in words)
    return told


def plain_page_text(page):
    told = "crowd " + str(page.crowd.most) + "".join(" " + person for person in page.crowd)
    for person in page.crowd:
        told += "\nrow " + person
        for other in page.crowd:
            if other != person:
                told += " " + ("-" if page[person, other] is None else str(page[person, other]))
    return told


def some_crowd(chance):
    words = ["ann", "bob", "cy", "d", "eeeeeeee", "row", "list", "crowd"]
    chance.shuffle(words)
    return Crowd(words[:chance.randint(1, 8)], chance.choice([1, 2, 9, 10]))


class WritingTest(unittest.TestCase):
    def test_rule_line_by_line(self):
        crowd = Crowd(["ann", "bob", "cy"], 3)
        rule = Rule(crowd, gather="trim", trim=1, prizes=2, lists=[["cy"], ["bob"], ["ann"]],
                    reads=[("cy", "ann"), ("ann", "cy"), ("ann", "bob")])
        self.assertEqual(rule_text(rule), RULE)
        self.assertEqual(rule_text(Rule(crowd, turn="placed", gather="mean", prizes=8)).split("\n"),
                         ["crowd 3 ann bob cy", "turn placed", "gather mean", "prizes 8", "list ann bob cy", "read ann bob cy",
                          "read bob ann cy", "read cy ann bob"])
        self.assertEqual(rule_text(Rule(crowd, reads=[], lists=[["ann"], ["bob"], ["cy"]], turn="centred")).split("\n"),
                         ["crowd 3 ann bob cy", "turn centred", "gather sum", "prizes 0", "list ann", "list bob", "list cy"])
        self.assertEqual(rule_text(Rule(Crowd(["a"], 10))), "crowd 10 a\nturn plain\ngather sum\nprizes 0\nlist a")
        self.assertEqual(rule_text(rule=Rule(Crowd(["a"], 10))), rule_text(Rule(Crowd(["a"], 10))))

    def test_page_line_by_line(self):
        crowd = Crowd(["ann", "bob", "cy"], 3)
        page = Page.filled(crowd, None).with_row("ann", {"bob": 0, "cy": 3}).with_mark(("bob", "cy"), 1).with_mark(("cy", "ann"), 2)
        self.assertEqual(page_text(page), PAGE)
        self.assertEqual(page_text(page=Page.filled(Crowd(["b", "a"], 10), 10)), "crowd 10 b a\nrow b 10\nrow a 10")
        self.assertEqual(page_text(Page.filled(Crowd(["a"], 1), None)), "crowd 1 a\nrow a")

    def test_there_and_back(self):
        chance = random.Random(101)
        for turn in TURNS:
            for _ in range(60):
                rule = some_rule(some_crowd(chance), chance, turn)
                self.assertEqual(rule_text(rule), plain_rule_text(rule))
                self.assertEqual(read_rule(rule_text(rule)), rule)
                page = some_page(rule.crowd, chance, chance.choice([0, 1, 3]))
                self.assertEqual(page_text(page), plain_page_text(page))
                self.assertEqual(read_page(page_text(page)), page)

    def test_each_gather(self):
        for gather, trim in GATHERED:
            rule = Rule(crowd_of(8, 10), gather=gather, trim=trim, prizes=3, lists=[list("adeh"), list("bcfg")])
            self.assertEqual(rule_text(rule), plain_rule_text(rule))
            self.assertEqual(read_rule(rule_text(rule)), rule)

    def test_by_name(self):
        self.assertEqual(rule_text(read_rule(text=RULE)), RULE)
        self.assertEqual(page_text(read_page(text=PAGE)), PAGE)


class RefusedTextsTest(RefusingCase):
    def refused_at(self, call, line, text):
        with self.assertRaises(BadText) as caught:
            call(text)
        self.assertIs(type(caught.exception), BadText)
        self.assertEqual(caught.exception.line, line, text)
        self.assertIn(type(caught.exception.line), (int, type(None)))

    def test_no_texts(self):
        for value in [value for value in ODD if not isinstance(value, str)] + [RULE.encode(), [RULE], RULE.split("\n"), Rule(crowd_of(2, 1))]:
            for call in (read_rule, read_page):
                self.refused_at(call, 0, value)
                with self.assertRaises(BadText):
                    call(text=value)

    def test_empty_and_short_texts(self):
        for call in (read_rule, read_page):
            for text in ("", "\n", " ", "x", "crowd", "crowd 3", "crowd a", "crowd\n" + RULE):
                self.refused_at(call, 0, text)
        lines = RULE.split("\n")
        for many in range(1, 5):
            self.refused_at(read_rule, many, "\n".join(lines[:many]))
            self.refused_at(read_rule, many, "\n".join(lines[:many]) + "\n")
            self.refused_at(read_rule, many, "\n".join(lines[:many]) + "\nread ann bob")
        self.refused_at(read_rule, None, "\n".join(lines[:5]))
        for many in range(1, 4):
            self.refused_at(read_page, None, "\n".join(PAGE.split("\n")[:many]))

    def test_line_feeds_and_blanks(self):
        for call, text in [(read_rule, RULE), (read_page, PAGE)]:
            lines = text.split("\n")
            self.refused_at(call, len(lines), text + "\n")
            self.refused_at(call, 0, "\n" + text)
            for at, line in enumerate(lines):
                for other in (" " + line, line + " ", line.replace(" ", "  ", 1), line.replace(" ", "\t", 1), "", " ", line + "\r",
                              line[:1].upper() + line[1:], line.replace(" ", "", 1), line + "\x0b", line.replace(" ", "\u00a0", 1)):
                    self.refused_at(call, at, "\n".join(lines[:at] + [other] + lines[at + 1:]))
                self.refused_at(call, at, "\n".join(lines[:at] + [""] + lines[at:]))

    def test_rule_lines_that_have_not_their_form(self):
        lines = RULE.split("\n")
        wrong = {0: ["crowd ann bob", "crowd 3 ann 3", "crowd -1 ann", "crowd 03 ann", "crowd 00 ann", "crowd 12345 ann", "crowd +3 ann",
                     "crowd 3.0 ann", "crowd 3 aaaaaaaaa", "crowd 3 Ann", "crowd 3 ann -", "crowd 3 \u00e9", "crowd \u0663 ann", "crowd 3",
                     "crowd  ann", "people 3 ann", "crowd - ann", "crowd 1_0 ann", "turn plain", "crowd 3 a1"],
                 1: ["turn", "turn plain plain", "turn plain 3", "turn plain -", "turn 3", "turn Plain", "turn aaaaaaaaa", "turn -", "gather sum", "turns plain", "turn "],
                 2: ["gather", "gather 1", "gather trim 01", "gather trim 1 1", "gather trim x", "gather trim -1", "gather 1 trim",
                     "gather trim 10000", "gather sum -", "turn plain", "gather aaaaaaaaa", "gather sum ", "gather trim 1 "],
                 3: ["prizes", "prizes 2 2", "prizes x", "prizes 02", "prizes -2", "prizes 12345", "prizes -", "list ann", "prize 2"],
                 4: ["list", "list 3", "list ann 3", "list Ann", "list -", "read ann bob", "row ann 3", "list aaaaaaaaa", "prizes 2", "lists ann"],
                 5: ["list", "list bob -", "row bob 1", "read", "read ann", "crowd 3 ann", "list ann\tbob"],
                 7: ["read", "read ann", "read ann 3", "read ann Bob", "read - ann", "row ann 3", "reads ann bob", "read ann aaaaaaaaa"],
                 8: ["list cy", "row cy 1", "read cy", "gather sum", ""]}
        for at, others in wrong.items():
            for other in others:
                self.refused_at(read_rule, at, "\n".join(lines[:at] + [other] + lines[at + 1:]))
                self.refused_at(read_rule, at, "\n".join(lines[:at] + [other, "", "wrong again"]))

    def test_page_lines_that_have_not_their_form(self):
        lines = PAGE.split("\n")
        wrong = ["row", "row 3", "row ann 03", "row ann -1", "row ann --", "row ann 12345", "row ann x", "row ann 1 x", "row ann +1", "row Ann 1",
                 "row - 1", "rows ann 1", "list ann", "crowd 3 ann", "row ann 1.0", "row aaaaaaaaa 1", "row ann 1-", "row ann \u0661"]
        for at in range(1, len(lines)):
            for other in wrong:
                self.refused_at(read_page, at, "\n".join(lines[:at] + [other] + lines[at + 1:]))
                self.refused_at(read_page, at, "\n".join(lines[:at] + [other, "", "wrong again"]))
        for other in ["crowd ann", "crowd 3", "crowd 3 3", "row ann 1", "", "crowd 12345 ann"]:
            self.refused_at(read_page, 0, "\n".join([other] + lines[1:]))

    def test_lines_that_make_no_rule(self):
        lines = RULE.split("\n")
        wrong = {0: ["crowd 0 ann bob cy", "crowd 11 ann bob cy", "crowd 9999 ann bob cy", "crowd 3 ann bob", "crowd 3 ann bob cy d",
                     "crowd 3 ann ann cy", "crowd 3 bob ann cy", "crowd 3 a b c d e f g h i"],
                 1: ["turn centred", "turn placed", "turn round", "turn sum"],
                 2: ["gather trim", "gather trim 0", "gather trim 4", "gather trim 9999", "gather mean 1", "gather sum 0", "gather plain"],
                 3: ["prizes 9", "prizes 9999"],
                 4: ["list ann ann", "list bob", "list ann bob", "list d", "list ann cy bob"],
                 5: ["list cy", "list ann", "read ann bob"],
                 7: ["read ann ann", "read ann cy bob", "read ann bob bob", "read ann d", "read d ann", "read bob ann cy ann", "list bob"],
                 8: ["read bob ann\nread ann cy", "read cy ann\nread cy bob", "read cy cy", "read ann cy"]}
        for at, others in wrong.items():
            for other in others:
                # A read ahead of a list has not its place; else the forms are right, but there is no such rule.
                line = 6 if (at, other[:4]) == (5, "read") else None
                self.refused_at(read_rule, line, "\n".join(lines[:at] + [other] + lines[at + 1:]))
        self.refused_at(read_rule, None, RULE.replace("list ann\nlist bob\nlist cy", "list bob\nlist ann\nlist cy"))
        self.refused_at(read_rule, None, RULE.replace("list ann\nlist bob", "list ann bob"))
        self.refused_at(read_rule, None, RULE + "\nread cy bob")
        self.refused_at(read_rule, None, "\n".join(lines[:7] + lines[8:] + lines[7:8]))
        self.refused_at(read_rule, None, "crowd 1 a b\nturn plain\ngather sum\nprizes 0\nlist a b")

    def test_lines_that_make_no_page(self):
        lines = PAGE.split("\n")
        wrong = {0: ["crowd 2 ann bob cy", "crowd 0 ann bob cy", "crowd 11 ann bob cy", "crowd 3 ann bob", "crowd 3 ann cy bob",
                     "crowd 3 ann bob cy d", "crowd 3 ann ann cy", "crowd 3 a b c d e f g h i"],
                 1: ["row ann 0", "row ann", "row ann 0 3 1", "row ann 0 4", "row ann 0 9999", "row bob 0 3", "row d 0 3", "row ann - - -"],
                 3: ["row ann 2 -", "row bob 2 -", "row cy 2", "row cy 2 -\nrow cy 2 -", "row cy 2 -\nrow ann 0 3", "row cy 2 -\nrow d"]}
        for at, others in wrong.items():
            for other in others:
                self.refused_at(read_page, None, "\n".join(lines[:at] + [other] + lines[at + 1:]))
        for rows in itertools.permutations(lines[1:]):
            if list(rows) != lines[1:]:
                self.refused_at(read_page, None, "\n".join([lines[0], *rows]))
        for text in ("crowd 1 a", "crowd 1 a\nrow a -", "crowd 1 a\nrow b", "crowd 1 a\nrow a\nrow a"):
            self.refused_at(read_page, None, text)

    def test_texts_with_a_few_signs_otherwise(self):
        chance = random.Random(102)
        kept = 0
        for at in range(6000):
            rule = at % 2 == 0
            crowd = some_crowd(chance) if at % 4 > 1 else crowd_of(3, 3)
            text = rule_text(some_rule(crowd, chance)) if rule else page_text(some_page(crowd, chance, 3))
            for _ in range(chance.randint(1, 2)):
                place = chance.randrange(len(text) + 1)
                cut = chance.choice([0, 0, 1, 1, 1, 3])
                text = text[:place] + chance.choice(["", *SIGNS]) + text[place + cut:]
            try:
                value = read_rule(text) if rule else read_page(text)
            except BadText as error:
                self.assertTrue(error.line is None or 0 <= error.line <= text.count("\n") + 1)
                continue
            self.assertEqual(rule_text(value) if rule else page_text(value), text)
            kept += 1
        self.assertGreater(kept, 50)

    def test_long_texts(self):
        self.refused_at(read_rule, None, RULE + "\nread ann bob" * 3000)
        self.refused_at(read_page, None, PAGE + "\nrow ann 1" * 3000)
        self.refused_at(read_page, None, PAGE + " 1" * 3000)
        self.refused_at(read_rule, 0, "crowd " + "9" * 5000 + " ann")
        self.refused_at(read_rule, 3, RULE.replace("prizes 2", "prizes " + "1" * 5000))

    def test_wrong_arguments(self):
        for value in ODD + [RULE, crowd_of(2, 1), Page.filled(crowd_of(2, 1), 1)]:
            self.refused(BadArgument, "value", value, rule_text, value)
            self.refused(BadArgument, "value", value, rule_text, rule=value)
        for value in ODD + [PAGE, crowd_of(2, 1), Rule(crowd_of(2, 1)), {}]:
            self.refused(BadArgument, "value", value, page_text, value)
            self.refused(BadArgument, "value", value, page_text, page=value)
        self.assertTrue(issubclass(BadText, MarksError))


if __name__ == "__main__":
    unittest.main()
