"""Pages: what the people of a crowd mark one another, with marks that may be missing."""

from ownmarks.basics import is_integer_within, power
from ownmarks.crowds import need_crowd, need_person
from ownmarks.errors import BadArgument, BadMark, BadPage, BadPair, TooMany

MOST_PAGES = 4096


def is_mark(crowd, value):
    return is_integer_within(value, 0, crowd.most)


def is_mark_or_none(crowd, value):
    return value is None or is_mark(crowd, value)


def are_marks(crowd, value):
    """Whether any value is a dict from all pairs to marks of the crowd or None."""
    if not isinstance(value, dict) or len(value) != len(crowd.pairs()):
        return False
    return all([crowd.is_pair(pair) and is_mark_or_none(crowd, mark) for pair, mark in value.items()])


def is_row(crowd, person, value):
    """Whether any value is a dict from all others than this person to marks of the crowd or None."""
    if not isinstance(value, dict) or len(value) != len(crowd) - 1:
        return False
    return all([other in crowd and other != person and is_mark_or_none(crowd, mark) for other, mark in value.items()])


class Page:
    """For each pair of a crowd a mark, or None where it is missing. No page ever changes."""

    def __init__(self, crowd, marks):
        need_crowd(crowd)
        if not are_marks(crowd, marks):
            raise BadPage(marks)
        self.crowd = crowd
        self._marks = {pair: marks[pair] for pair in crowd.pairs()}

    @property
    def marks(self):
        return {pair: mark for pair, mark in self._marks.items()}

    @property
    def is_full(self):
        return all([mark is not None for mark in self._marks.values()])

    def __getitem__(self, at):
        need_pair(self.crowd, at)
        return self._marks[at]

    def __iter__(self):
        raise TypeError("a page is not iterated over")

    def __eq__(self, other):
        return isinstance(other, Page) and self.crowd == other.crowd and self._marks == other._marks

    def row(self, person):
        """What somebody gives to all others."""
        need_person(self.crowd, person)
        return {other: self._marks[person, other] for other in self.crowd.people if other != person}

    def with_mark(self, pair, mark):
        """The page with another mark, or None, for one pair."""
        need_pair(self.crowd, pair)
        if not is_mark_or_none(self.crowd, mark):
            raise BadMark(mark)
        return Page(self.crowd, {at: mark if at == pair else old for at, old in self._marks.items()})

    def with_row(self, person, row):
        """The page with another row of somebody."""
        need_person(self.crowd, person)
        if not is_row(self.crowd, person, row):
            raise BadMark(row)
        marks = {pair: mark for pair, mark in self._marks.items()}
        for other, mark in row.items():
            marks[person, other] = mark
        return Page(self.crowd, marks)

    @staticmethod
    def filled(crowd, mark):
        """The page on which all marks are this one, or None."""
        need_crowd(crowd)
        if not is_mark_or_none(crowd, mark):
            raise BadMark(mark)
        return Page(crowd, {pair: mark for pair in crowd.pairs()})


def need_page(page, crowd):
    """Raise BadArgument(page) for what is no Page of this crowd."""
    if not isinstance(page, Page) or page.crowd != crowd:
        raise BadArgument(page)


def is_full_page(crowd, value):
    """Whether any value is a full Page of this crowd."""
    return isinstance(value, Page) and value.crowd == crowd and value.is_full


def need_full_page(page, crowd):
    """Raise BadArgument(page) for what is no full Page of this crowd."""
    if not is_full_page(crowd, page):
        raise BadArgument(page)


def is_row_change(crowd, person, value):
    """Whether any value is a tuple of two full pages of the crowd, equal but for the row of somebody."""
    if not isinstance(value, tuple) or len(value) != 2:
        return False
    page, other = value
    if not is_full_page(crowd, page) or not is_full_page(crowd, other):
        return False
    return page.with_row(person, other.row(person)) == other


def page_of_marks(crowd, marks):
    """The full page with these marks, in the order of the pairs."""
    return Page(crowd, {pair: mark for pair, mark in zip(crowd.pairs(), marks)})


def page_with(crowd, told):
    """The full page with the marks that are told, a dict from some pairs, and mark 0 for all others."""
    return Page(crowd, {pair: told.get(pair, 0) for pair in crowd.pairs()})


def need_few_pages(crowd):
    """Raise TooMany(4096) for a crowd with more full pages."""
    if power(crowd.most + 1, len(crowd.pairs())) > MOST_PAGES:
        raise TooMany(MOST_PAGES)


def need_pair(crowd, pair):
    """Raise BadPair(pair) for what is no pair of the crowd."""
    if not crowd.is_pair(pair):
        raise BadPair(pair)


def need_mark(crowd, mark):
    """Raise BadMark(mark) for what is no mark of the crowd."""
    if not is_mark(crowd, mark):
        raise BadMark(mark)
