"""Sessions: a rule is edited, with edits that can be taken back."""

from ownmarks.errors import BadArgument, BadChange, MarksError, NothingLeft
from ownmarks.pages import need_pair
from ownmarks.rules import Rule, are_reads, need_rule
from ownmarks.web import is_safe

PARTS = ("turn", "reads", "gather", "lists", "prizes", "trim")


def with_part(rule, part, value):
    """The rule with another part, any values: as Rule takes them, or its error."""
    if not isinstance(part, str) or part not in PARTS:
        raise BadArgument(part)
    # Not by rule.changed: for it None is no value, but leaves a part as it is.
    parts = {"turn": rule.turn, "reads": rule.reads, "gather": rule.gather, "trim": rule.trim}
    parts["lists"] = rule.lists
    parts["prizes"] = rule.prizes
    if part == "gather":
        parts["trim"] = 0
    if part == "trim":
        parts["gather"] = "trim"
    parts[part] = value
    return Rule(
        rule.crowd,
        turn=parts["turn"],
        reads=parts["reads"],
        gather=parts["gather"],
        trim=parts["trim"],
        lists=parts["lists"],
        prizes=parts["prizes"],
    )


def behind_change(rule, change):
    """The rule behind a change, any value; raise BadChange(change) for what is none, or cannot be made."""
    if not isinstance(change, tuple) or len(change) != 2:
        raise BadChange(change)
    part, value = change
    try:
        return with_part(rule, part, value)
    except MarksError as error:
        raise BadChange(change) from error


class Session:
    """A rule that is edited."""

    def __init__(self, rule):
        need_rule(rule)
        self._rule = rule
        # The rules ahead of the edits that undo can take back, and behind those that redo can make, the next one last.
        self._done = []
        self._undone = []

    @property
    def rule(self):
        return self._rule

    @property
    def cut(self):
        return self._rule.prizes

    @cut.setter
    def cut(self, value):
        self.change("prizes", value)

    def __len__(self):
        return len(self._done)

    def __getitem__(self, at):
        need_pair(self._rule.crowd, at)
        return at in self._rule

    def __setitem__(self, at, worth):
        need_pair(self._rule.crowd, at)
        if not isinstance(worth, bool):
            raise BadArgument(worth)
        others = [pair for pair in self._rule.reads if pair != at]
        self._edit(self._rule.changed(reads=[*others, at] if worth else others))

    def __ior__(self, other):
        if not are_reads(self._rule.crowd, other):
            raise BadArgument(other)
        more = [pair for pair in other if pair not in self._rule]
        self._edit(self._rule.changed(reads=[*self._rule.reads, *more]))
        return self

    def __iter__(self):
        raise TypeError("a session is not iterated over")

    def _edit(self, rule):
        self._done.append(self._rule)
        self._undone = []
        self._rule = rule

    def change(self, part, value):
        """Set one of the parts of the rule."""
        self._edit(with_part(self._rule, part, value))

    def undo(self):
        """Take the last edit back."""
        if len(self._done) == 0:
            raise NothingLeft()
        self._undone.append(self._rule)
        self._rule = self._done.pop()

    def redo(self):
        """Make the edit again that was taken back last."""
        if len(self._undone) == 0:
            raise NothingLeft()
        self._done.append(self._rule)
        self._rule = self._undone.pop()

    def trial(self):
        """A context: if an error leaves the block, the session is as it was at its beginning."""
        return Attempt(self)

    def tried(self, changes):
        """Make all changes or none; the list of whether the rule is safe behind each of them."""
        if not isinstance(changes, (list, tuple)):
            raise BadArgument(changes)
        rules = []
        for change in changes:
            rules.append(behind_change(rules[-1] if len(rules) > 0 else self._rule, change))
        for rule in rules:
            self._edit(rule)
        return [is_safe(rule) for rule in rules]


class Attempt:
    """Keeps what a session is at the beginning of a block, for the case that an error leaves it."""

    def __init__(self, session):
        self._session = session
        self._rule = session.rule
        self._done = []
        self._undone = []

    def __enter__(self):
        session = self._session
        self._rule = session._rule
        self._done = list(session._done)
        self._undone = list(session._undone)
        return session

    def __exit__(self, kind, value, trace):
        session = self._session
        if kind is not None:
            session._rule = self._rule
            session._done = self._done
            session._undone = self._undone
