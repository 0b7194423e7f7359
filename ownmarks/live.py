"""Live rounds: the marks of a page come one by one, with changes that can be taken back."""

from ownmarks.errors import BadChange, BadPair, BadText, NothingLeft
from ownmarks.pages import Page, is_mark, need_mark, need_pair
from ownmarks.rules import need_plain_rule
from ownmarks.scores import ranks
from ownmarks.texts import is_number_word
from ownmarks.toldback import can_rank


def need_new_mark(crowd, pair, mark):
    """Raise BadPair(pair) for what is no pair, BadMark(mark) for what is no mark."""
    need_pair(crowd, pair)
    need_mark(crowd, mark)


def journal_line(pair, mark):
    """The line that tells of a change: a mark put, or taken out (None)."""
    if mark is None:
        return " ".join(["clear", *pair])
    return " ".join(["mark", *pair, str(mark)])


def told_change(line):
    """The tuple (pair, mark) of a line of a journal, (None, None) if it is none."""
    words = line.split(" ")
    if len(words) == 4 and words[0] == "mark" and is_number_word(words[3]):
        return ((words[1], words[2]), int(words[3]))
    if len(words) == 3 and words[0] == "clear":
        return ((words[1], words[2]), None)
    return (None, None)


class Live:
    """A round by a plain rule that goes on mark by mark."""

    def __init__(self, rule):
        need_plain_rule(rule)
        self._rule = rule
        self._marks = {pair: None for pair in rule.crowd.pairs()}
        # Changes are tuples (pair, mark before, mark behind), None for no mark.
        self._done = []
        self._undone = []

    @property
    def rule(self):
        return self._rule

    @property
    def page(self):
        return Page(self._rule.crowd, self._marks)

    @property
    def is_full(self):
        return len(self) == len(self._marks)

    @property
    def is_settled(self):
        return all([len(self.can_rank(person)) == 1 for person in self._rule.crowd.people])

    def __getitem__(self, at):
        need_pair(self._rule.crowd, at)
        return self._marks[at]

    def __setitem__(self, at, worth):
        self.put(at, worth)

    def __iter__(self):
        raise TypeError("a live round is not iterated over")

    def __len__(self):
        return len(self._told_marks())

    def __contains__(self, x):
        return self._rule.crowd.is_pair(x) and self._marks[x] is not None

    def __eq__(self, other):
        return isinstance(other, Live) and self._rule == other._rule and self._marks == other._marks

    def _told_marks(self):
        return {pair: mark for pair, mark in self._marks.items() if mark is not None}

    def _can_change(self, pair, mark):
        if mark is None:
            return pair in self
        return self._rule.crowd.is_pair(pair) and is_mark(self._rule.crowd, mark)

    def _change(self, pair, mark):
        self._done.append((pair, self._marks[pair], mark))
        self._undone = []
        self._marks[pair] = mark

    def put(self, pair, mark):
        """Put a mark, where there may be one."""
        need_new_mark(self._rule.crowd, pair, mark)
        self._change(pair, mark)

    def put_all(self, rows):
        """Put the marks of a list of tuples (pair, mark), each one a change, or none of them."""
        if not isinstance(rows, list) or not all([isinstance(row, tuple) and len(row) == 2 for row in rows]):
            raise BadChange(rows)
        for pair, mark in rows:
            need_new_mark(self._rule.crowd, pair, mark)
        for pair, mark in rows:
            self._change(pair, mark)

    def clear(self, pair):
        """Take a mark out."""
        if pair not in self:
            raise BadPair(pair)
        self._change(pair, None)

    def left(self):
        """The list of the pairs without a mark."""
        return [pair for pair, mark in self._marks.items() if mark is None]

    def ranks(self):
        """The ranks by the page as it is."""
        return ranks(self._rule, self.page)

    def can_rank(self, person):
        """The list of the ranks that somebody can still have."""
        return can_rank(self._rule, person, self._told_marks())

    def undo(self):
        """Take back the last change."""
        if len(self._done) == 0:
            raise NothingLeft()
        pair, before, behind = self._done.pop()
        self._undone.append((pair, before, behind))
        self._marks[pair] = before

    def redo(self):
        """Make the change again that was taken back last."""
        if len(self._undone) == 0:
            raise NothingLeft()
        pair, before, behind = self._undone.pop()
        self._done.append((pair, before, behind))
        self._marks[pair] = behind

    def journal(self):
        """The text with a line for each change that undo can take back."""
        return "\n".join([journal_line(pair, behind) for pair, _, behind in self._done])

    @staticmethod
    def read(rule, text):
        """The round behind the changes of a journal."""
        need_plain_rule(rule)
        if not isinstance(text, str):
            raise BadText(0)
        live = Live(rule)
        lines = [] if text == "" else text.split("\n")
        for at, line in enumerate(lines):
            pair, mark = told_change(line)
            if not live._can_change(pair, mark):
                raise BadText(at)
            live._change(pair, mark)
        return live

    def copied(self):
        """An equal round that goes on by itself, with the same changes to undo and redo."""
        other = Live(self._rule)
        other._marks = {pair: mark for pair, mark in self._marks.items()}
        other._done = list(self._done)
        other._undone = list(self._undone)
        return other

    def trial(self):
        """A context: if an error leaves the block, all is as it was ahead of it."""
        return Trial(self)


class Trial:
    """Keeps what a live round is at the beginning of a block, for the case that an error leaves it."""

    def __init__(self, live):
        self._live = live
        self._marks = {}
        self._done = []
        self._undone = []

    def __enter__(self):
        kept = self._live.copied()
        self._marks = kept._marks
        self._done = kept._done
        self._undone = kept._undone
        return self._live

    def __exit__(self, kind, value, trace):
        live = self._live
        if kind is not None:
            live._marks = self._marks
            live._done = self._done
            live._undone = self._undone
