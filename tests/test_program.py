"""Promises 1 and 2 over the whole program: the interface as the document lists it, and what all calls have in common."""

import importlib
import inspect
import itertools
import unittest

from ownmarks.agreements import agreement, bars, fewest, hardest, is_agreement, ring_paper
from ownmarks.alike import alike, parting
from ownmarks.consoles import Console
from ownmarks.crowds import Crowd
from ownmarks.drops import least_lists, made_safe
from ownmarks.errors import BadArgument, BadNumber, MarksError, NotThere, TooMany
from ownmarks.live import Live
from ownmarks.pages import Page
from ownmarks.rounds import Rounds
from ownmarks.rules import Rule
from ownmarks.safe import best_lot, share_paper
from ownmarks.scores import Ranker
from ownmarks.sessions import Session
from ownmarks.swings import bounds_lift, is_moved, lift, lift_pages, lift_paper, lifts
from ownmarks.turned import turned_lifts
from ownmarks.web import is_safe, own_reads
from tests.helping import GATHERED, ODD, RefusingCase, crowd_of, great_rules, odd_without, small_rules

# What the document lists: for each module the functions with their parameters.
FUNCTIONS = {
    "scores": ["turned_row(rule, page, person)", "score(rule, page, person)", "scores(rule, page)", "ranks(rule, page)", "winners(rule, page)"],
    "web": ["rank_reads(rule, person)", "own_reads(rule, person)", "is_safe(rule)", "safe_people(rule)", "ways(rule)"],
    "swings": ["values(rule, person)", "decided(rule, person, marked)", "lift(rule, person)", "lifts(rule)", "lift_pages(rule, person)",
               "is_moved(rule, person, places, value)", "reach(rule, page, person)", "lift_paper(rule, person)",
               "bounds_lift(rule, person, places, paper)"],
    "turned": ["turned_lift(rule, person)", "turned_lifts(rule)", "count_sums(rule, person)", "turned_pages(rule, person)",
               "turned_reach(rule, page, person)"],
    "prizes": ["sure_ahead(rule, person, score)", "may_be_ahead(rule, person, score)", "prize_hangs(rule, person)", "hanging(rule)",
               "prize_pages(rule, person)", "is_prize_move(rule, person, value)", "prize_paper(rule, person)", "shows_prize(rule, person, paper)"],
    "lots": ["lot_winners(page, first)", "lot_shares(page)", "lot_worth(page)", "lot_ratio(page)", "worst_lot(crowd)"],
    "safe": ["views(crowd, person)", "view_of(crowd, person, marks)", "best_share(crowd)", "best_lot(crowd)", "share_paper(crowd)",
             "is_lot(crowd, value, share)", "bounds_share(crowd, paper, share)"],
    "toldback": ["can_score(rule, person, marks)", "can_rank(rule, person, marks)", "page_for(rule, ranks, marks)",
                 "goes_with(rule, ranks, marks, value)", "lots_of_ranks(rule, marks)"],
    "texts": ["rule_text(rule)", "page_text(page)", "read_rule(text)", "read_page(text)"],
    "joins": ["joined(rule, other)", "parts_of(rule)", "only(rule, people)"],
    "agreements": ["arrows(rule)", "fewest(rule)", "agreement(rule)", "is_agreement(rule, value)", "ring_paper(rule, number)",
                   "bars(rule, number, paper)", "hardest(crowd)"],
    "drops": ["inner_pairs(rule)", "moving_pages(rule, pair)", "made_safe(rule)", "cost(rule, lists)", "least_lists(rule, sizes)"],
    "more": ["mark_more(rule, page, pair)", "with_read(rule, pair)", "harms(rule, pair, mark)", "is_harm(rule, pair, mark, value)",
             "least_harmless(rule, pair)", "against_missing(rule, page, pair)"],
    "alike": ["score_pairs(one, other, person)", "alike(one, other)", "parting(one, other)"],
    "apart": ["clashes(page, spread)", "goes_together(page, people, spread)", "least_left_out(page, spread)", "always_left_out(page, spread)",
              "least_spread(page, many)"],
}
# For each class its methods, those with two lines about them as an operator, and what it has as properties and attributes.
CLASSES = {
    ("crowds", "Crowd(people, most)"): (["place(person)", "pairs()", "is_pair(value)"], "len contains iter eq", "people most"),
    ("pages", "Page(crowd, marks)"): (["row(person)", "with_mark(pair, mark)", "with_row(person, row)", "filled(crowd, mark)"],
                                      "getitem iter eq", "crowd marks is_full"),
    ("rules", "Rule(crowd, *, turn, reads, gather, trim, lists, prizes)"): (
        ["readers(person)", "list_of(person)", "changed(*, turn, reads, gather, trim, lists, prizes)", "is_within(other)"],
        "len contains iter or and eq", "crowd turn gather trim prizes reads lists"),
    ("scores", "Ranker(rule)"): (["moved(page, other)"], "call", ""),
    ("live", "Live(rule)"): (["put(pair, mark)", "clear(pair)", "left()", "ranks()", "can_rank(person)", "undo()", "redo()", "journal()",
                              "read(rule, text)", "copied()", "trial()", "put_all(rows)"],
                             "getitem setitem iter len contains eq", "rule page is_full is_settled"),
    ("rounds", "Rounds(rule, weights)"): (["ranks_in(page, number)", "rests(page)", "may_read(person, number)", "stands_apart(person, number)",
                                           "lift(person, number)", "lift_pages(person, number)", "mark_harm(pair, number)"], "call", "rule weights"),
    ("sessions", "Session(rule)"): (["change(part, value)", "undo()", "redo()", "trial()", "tried(changes)"], "getitem setitem ior len iter", "rule cut"),
    ("consoles", "Console(rule)"): (["execute(line)"], "call len", "rule"),
}
ERRORS = {"BadCrowd": "part", "BadPage": "value", "BadRule": "part", "BadPair": "value", "BadMark": "value", "BadArgument": "value",
          "BadNumber": "number", "BadChange": "value", "BadCommand": "command", "BadText": "line"}

CROWD = crowd_of(3, 1)
RULE = Rule(CROWD, reads=[("a", "b"), ("b", "c"), ("c", "a"), ("b", "a")], prizes=1)
PAGE = Page.filled(CROWD, 0).with_mark(("a", "c"), 1).with_mark(("c", "a"), 1)
# What a parameter is given by its name; some functions ask for something else.
GIVEN = {"rule": RULE, "page": PAGE, "person": "a", "marked": "b", "crowd": CROWD, "places": 1, "number": 1, "pair": ("b", "a"), "marks": {("a", "b"): 1},
         "ranks": {"a": 1, "b": 2, "c": 3}, "mark": 0, "spread": 0, "many": 1, "one": RULE, "other": RULE.changed(gather="mean"), "people": ["a", "b"],
         "first": ["a"], "share": (1, 2), "lists": [["a", "b"], ["c"]], "sizes": [2, 1], "value": None, "paper": None, "score": (1, 1)}
ELSE = {("joins", "joined", "other"): Rule(Crowd(["x", "y"], 1), prizes=1), ("joins", "only", "people"): ["a", "b", "c"],
        ("texts", "read_rule", "text"): "crowd 1 a\nturn plain\ngather sum\nprizes 0\nlist a", ("texts", "read_page", "text"): "crowd 1 a\nrow a",
        ("safe", "view_of", "marks"): (0, 1, 0, 1, 0, 1), ("safe", "is_lot", "value"): best_lot(CROWD),
        ("safe", "bounds_share", "paper"): share_paper(CROWD), ("swings", "is_moved", "value"): lift_pages(RULE, "a"),
        ("swings", "bounds_lift", "paper"): lift_paper(RULE, "a"), ("agreements", "is_agreement", "value"): agreement(RULE),
        ("more", "with_read", "pair"): ("a", "c"), ("more", "harms", "pair"): ("a", "c"), ("more", "is_harm", "pair"): ("a", "c"),
        ("more", "least_harmless", "pair"): ("a", "c"), ("more", "is_harm", "value"): PAGE}


def parts(told):
    """The name and the parameters of a call as the document writes it."""
    name, rest = told[:-1].split("(")
    return name, [word for word in rest.split(", ") if word]


def functions():
    for module, rows in FUNCTIONS.items():
        for row in rows:
            name, params = parts(row)
            yield module, getattr(importlib.import_module("ownmarks." + module), name), name, params


def given_for(module, name, params):
    return {param: ELSE.get((module, name, param), GIVEN.get(param)) for param in params}


def whole(told):
    return list(told) if inspect.isgenerator(told) else told


class InterfaceTest(unittest.TestCase):
    def names_of(self, call):
        told = []
        for param in inspect.signature(call).parameters.values():
            if param.kind is param.KEYWORD_ONLY and "*" not in told:
                told.append("*")
            self.assertIn(param.kind, (param.POSITIONAL_OR_KEYWORD, param.KEYWORD_ONLY))
            told.append(param.name)
        return told

    def test_functions(self):
        for module, call, name, params in functions():
            self.assertTrue(inspect.isfunction(call))
            self.assertEqual((call.__module__, call.__name__), ("ownmarks." + module, name))
            self.assertEqual(self.names_of(call), params)

    def test_classes(self):
        for (module, row), (methods, signs, rest) in CLASSES.items():
            name, params = parts(row)
            kind = getattr(importlib.import_module("ownmarks." + module), name)
            self.assertTrue(inspect.isclass(kind))
            self.assertEqual((kind.__module__, kind.__name__), ("ownmarks." + module, name))
            self.assertEqual(self.names_of(kind), params)
            for method in methods:
                title, params = parts(method)
                self.assertIn(title, vars(kind))
                own = vars(kind)[title]
                call = own.__func__ if isinstance(own, staticmethod) else own
                self.assertEqual(self.names_of(call)[0 if isinstance(own, staticmethod) else 1:], params)
            for sign in signs.split():
                self.assertIn(f"__{sign}__", vars(kind))

    def test_attributes(self):
        made = [CROWD, PAGE, RULE, Ranker(RULE), Live(RULE), Rounds(RULE, [1] * 8), Session(RULE), Console(RULE)]
        for one, (_, (_, _, rest)) in zip(made, CLASSES.items()):
            for name in rest.split():
                self.assertTrue(hasattr(one, name))
        for kind, names in [(Crowd, ["people"]), (Page, ["marks", "is_full"]), (Rule, ["reads", "lists"]), (Live, ["rule", "page", "is_full", "is_settled"]),
                            (Rounds, ["weights"]), (Session, ["rule", "cut"]), (Console, ["rule"])]:
            for name in names:
                self.assertIsInstance(vars(kind)[name], property)

    def test_errors(self):
        errors = importlib.import_module("ownmarks.errors")
        for name, field in ERRORS.items():
            kind = getattr(errors, name)
            self.assertEqual((kind.__bases__, kind.__module__, self.names_of(kind)), ((MarksError,), "ownmarks.errors", [field]))
            for value in ODD:
                self.assertIs(getattr(kind(value), field), value)
                self.assertIs(getattr(kind(**{field: value}), field), value)
        self.assertEqual((MarksError.__bases__, TooMany.__bases__, NotThere.__bases__), ((ValueError,), (OverflowError,), (LookupError,)))

    def test_default_values(self):
        told = {name: param.default for name, param in inspect.signature(Rule).parameters.items() if name != "crowd"}
        self.assertEqual(told, {"turn": "plain", "reads": None, "gather": "sum", "trim": 0, "lists": None, "prizes": 0})
        told = {name: param.default for name, param in inspect.signature(Rule.changed).parameters.items() if name != "self"}
        self.assertEqual(set(told.values()), {None})


class CallsTest(unittest.TestCase):
    def test_by_position_and_by_name_in_any_order(self):
        for module, call, name, params in functions():
            given = given_for(module, name, params)
            told = whole(call(*given.values()))
            for order in itertools.permutations(params):
                again = whole(call(**{param: given[param] for param in order}))
                self.assertEqual(again, told, name)
                self.assertIs(type(again), type(told))

    def test_methods_by_name_in_any_order(self):
        rounds, live, session = Rounds(RULE, [1] * 8), Live(RULE), Session(RULE)
        for call, given in [(rounds.ranks_in, {"page": PAGE, "number": 3}), (rounds.may_read, {"person": "a", "number": 3}),
                            (rounds.lift, {"person": "a", "number": 1}), (rounds.mark_harm, {"pair": ("a", "b"), "number": 2}),
                            (PAGE.with_mark, {"pair": ("a", "b"), "mark": 1}), (PAGE.with_row, {"person": "a", "row": {"b": 0, "c": None}}),
                            (Page.filled, {"crowd": CROWD, "mark": 1}), (Ranker(RULE).moved, {"page": PAGE, "other": PAGE}),
                            (live.put, {"pair": ("a", "b"), "mark": 1}), (Live.read, {"rule": RULE, "text": ""}),
                            (session.change, {"part": "prizes", "value": 2})]:
            told = call(*given.values())
            self.assertEqual(call(**dict(reversed(list(given.items())))), told)
            self.assertEqual(call(**given), told)

    def test_the_same_call_tells_the_same_thing_again(self):
        for module, call, name, params in functions():
            given = given_for(module, name, params)
            told = whole(call(*given.values()))
            self.spoil(whole(call(*given.values())))
            self.assertEqual(whole(call(*given.values())), told, name)

    def spoil(self, told):
        """Change all lists and dicts that were told."""
        if isinstance(told, (list, tuple)):
            for part in told:
                self.spoil(part)
        if isinstance(told, dict):
            for part in list(told.values()):
                self.spoil(part)
            told.clear()
        if isinstance(told, list):
            told[:] = ["zz", None]

    def test_what_was_given_is_not_changed_and_not_kept(self):
        for module, call, name, params in functions():
            given = given_for(module, name, params)
            before = repr({param: value for param, value in given.items() if isinstance(value, (list, dict, tuple))})
            whole(call(*given.values()))
            self.assertEqual(repr({param: value for param, value in given.items() if isinstance(value, (list, dict, tuple))}), before)


class WrongArgumentsTest(RefusingCase):
    def call(self, call, given):
        return whole(call(**given))

    def test_rules(self):
        for module, call, name, params in functions():
            for param in set(params) & {"rule", "one"}:
                for value in ODD + [CROWD, PAGE]:
                    given = {**given_for(module, name, params), param: value}
                    self.refused(BadArgument, "value", value, self.call, call, given)
                    # Ahead of what is wrong with later arguments.
                    self.refused(BadArgument, "value", value, self.call, call, {one: value if one == param else object() for one in params})
        for kind in (Ranker, Live, Session, Console, lambda rule: Rounds(rule, None), lambda rule: Live.read(rule, None)):
            for value in ODD + [CROWD, PAGE]:
                self.refused(BadArgument, "value", value, kind, value)

    def test_others(self):
        for module, call, name, params in functions():
            if "other" in params:
                for value in ODD + [CROWD, PAGE]:
                    self.refused(BadArgument, "value", value, self.call, call, {**given_for(module, name, params), "other": value})

    def test_crowds(self):
        for module, call, name, params in functions():
            if "crowd" in params:
                for value in ODD + [RULE, PAGE]:
                    self.refused(BadArgument, "value", value, self.call, call, {**given_for(module, name, params), "crowd": value})

    def test_pages(self):
        others = [Page.filled(crowd_of(3, 2), 1), Page.filled(crowd_of(2, 1), 1), Page.filled(Crowd(["c", "b", "a"], 1), 1)]
        for module, call, name, params in functions():
            if "page" in params:
                for value in ODD + [CROWD, RULE] + others * ("rule" in params):
                    self.refused(BadArgument, "value", value, self.call, call, {**given_for(module, name, params), "page": value})
        rounds = Rounds(RULE, [1] * 8)
        for call in (Ranker(RULE), rounds, rounds.rests):
            for value in ODD + [CROWD, RULE] + others:
                self.refused(BadArgument, "value", value, call, value)

    def test_people(self):
        for module, call, name, params in functions():
            for param in set(params) & {"person", "marked"}:
                for value in ODD + ["d", "abc"]:
                    self.refused(NotThere, "word", value, self.call, call, {**given_for(module, name, params), param: value})
        for call in (CROWD.place, PAGE.row, RULE.readers, RULE.list_of, Live(RULE).can_rank):
            for value in ODD + ["d"]:
                self.refused(NotThere, "word", value, call, value)

    def test_numbers(self):
        for module, call, name, params in functions():
            for param in set(params) & {"places", "number", "spread", "many"}:
                for value in odd_without(11, 10 ** 50) + [-1, True, False, 1.0, (1,)]:
                    self.refused(BadNumber, "number", value, self.call, call, {**given_for(module, name, params), param: value})


class ExamplesTest(unittest.TestCase):
    def test_lifts(self):
        self.assertEqual(lifts(Rule(Crowd(["a", "b", "c"], 2))), {"a": 2, "b": 2, "c": 2})
        rule = Rule(Crowd(["a", "b", "c", "d"], 2), lists=[["a", "b"], ["c", "d"]], reads=[("a", "c"), ("a", "d"), ("c", "a"), ("d", "b")])
        self.assertEqual(lifts(rule), {"a": 0, "b": 0, "c": 0, "d": 0})

    def test_hardest(self):
        told = [fewest(hardest(Crowd(["a", "b", "c", "d", "e"][:many], 1))) for many in [2, 3, 4, 5]]
        self.assertEqual(told, [1, 1, 2, 2])


class OnePromiseTest(unittest.TestCase):
    """Promise 1: what the parts of the program tell goes together, for small rules and for great ones."""

    def check(self, rule):
        found = lifts(rule)
        inner = [pair for pair in rule.reads if pair[1] in rule.list_of(pair[0])]
        # (a) and (b)
        self.assertEqual((is_safe(rule), set(found.values()) <= {0}), (not inner, not inner))
        for person in rule.crowd:
            self.assertEqual(found[person] > 0, own_reads(rule, person) != [])
            self.assertTrue(bounds_lift(rule, person, found[person], lift_paper(rule, person)))
            self.assertFalse(found[person] > 0 and bounds_lift(rule, person, found[person] - 1, lift_paper(rule, person)))
            if found[person] > 0:
                self.assertTrue(is_moved(rule, person, found[person], lift_pages(rule, person)))
        # (d)
        many = fewest(rule)
        self.assertEqual(many == 1, bool(inner))
        for number in range(1, 9):
            paper = ring_paper(rule, number)
            self.assertEqual(paper is None, many is not None and many <= number)
            self.assertTrue(paper is None or bars(rule, number, paper))
        self.assertTrue(many is None or is_agreement(rule, agreement(rule)))
        told = made_safe(rule)
        self.assertTrue(told is None or is_safe(told) and fewest(told) != 1)
        sizes = [len(members) for members in rule.lists]
        least = least_lists(rule, sizes)
        if told is not None:
            self.assertLessEqual(least[0], len(inner))
            self.assertEqual(rule.lists in least[1], least[0] == len(inner))
        # (f)
        self.assertTrue(alike(rule, rule.changed(prizes=8)))

    def test_small(self):
        for rule in small_rules(80, 251):
            self.check(rule)

    def test_great(self):
        for rule in great_rules():
            self.check(rule)

    def test_small_crowds_with_turned_rows(self):
        for gather in ("sum", "mean"):
            rule = Rule(crowd_of(3, 2), gather=gather)
            self.assertEqual(turned_lifts(rule), {person: lift(rule, person) for person in rule.crowd})

    def test_gathers_of_as_many_readers(self):
        for gather, trim in GATHERED:
            rule = Rule(crowd_of(8, 3), gather=gather, trim=trim)
            self.assertEqual(alike(Rule(crowd_of(8, 3)), rule), gather in ("sum", "mean"))
            self.assertEqual(parting(rule, Rule(crowd_of(8, 3))) is None, gather in ("sum", "mean"))


if __name__ == "__main__":
    unittest.main()
