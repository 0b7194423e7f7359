"""What several test files need: values of many kinds, and ways through all pages."""

import itertools

from ownmarks.crowds import Crowd
from ownmarks.pages import Page


class Alike:
    """Equal to every value, to show that kinds are looked at, not only ==."""

    def __eq__(self, other):
        return True

    def __hash__(self):
        return hash("a")


# Values that are no crowd, page, rule, person, pair, mark, fraction or list of such, in any crowd.
ODD = [None, True, False, -1, 11, 2.0, 1j, "", "A", "zz", "ninesigns", b"a", [], ["a"], ["a", "b"], (), ("a",), ("a", "a"),
       ("a", "b", "c"), ("a", "zz"), ("zz", "a"), ("a", 1), (True, "a"), ("a", ["b"]), (["a"], "b"), [["a"]], {}, {"a": 1},
       {"a"}, frozenset(["a"]), object(), object, len, Alike(), ValueError("a"), range(2), 10 ** 50, float("nan"), "a ", "b\n"]


def odd_without(*kept):
    """The odd values except some, told apart by kind and worth."""
    return [value for value in ODD if not any(type(value) is type(one) and value == one for one in kept)]


def crowd_of(many, most):
    return Crowd(list("abcdefgh"[:many]), most)


def page_of(crowd, marks):
    """The page with these marks, in the order of the pairs."""
    return Page(crowd, dict(zip(crowd.pairs(), marks)))


def all_marks(crowd):
    return range(crowd.most + 1)


def all_pages(crowd):
    return [page_of(crowd, marks) for marks in itertools.product(all_marks(crowd), repeat=len(crowd.pairs()))]


def all_rows(crowd, person):
    others = [other for other in crowd if other != person]
    return [dict(zip(others, marks)) for marks in itertools.product(all_marks(crowd), repeat=len(others))]


def some_page(crowd, chance, missing):
    """A page by lot; about one of so many marks is missing (none if it is 0)."""
    marks = {}
    for pair in crowd.pairs():
        gone = missing and chance.randrange(missing) == 0
        marks[pair] = None if gone else chance.randrange(crowd.most + 1)
    return Page(crowd, marks)
