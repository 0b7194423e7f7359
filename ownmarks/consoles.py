"""Consoles: sessions that are led by lines."""

from ownmarks.agreements import arrows, fewest
from ownmarks.basics import is_word
from ownmarks.drops import inner_pairs
from ownmarks.errors import BadCommand, MarksError, NotThere, NothingLeft
from ownmarks.sessions import Session
from ownmarks.swings import lift, lifts
from ownmarks.texts import DIGITS
from ownmarks.web import is_safe, own_reads

NONE = "-"


def line_of_words(words):
    return " ".join(words) if len(words) > 0 else NONE


def line_of_pairs(pairs):
    """Pairs, or arrows, in one line."""
    return line_of_words([f"{one}:{other}" for one, other in pairs])


def told_people(rule):
    return [line_of_words(rule.crowd.people)]


def told_lists(rule):
    return [line_of_words(members) for members in rule.lists]


def told_reads(rule):
    return [line_of_pairs(rule.reads)]


def told_lifts(rule):
    return [f"{person} {places}" for person, places in lifts(rule).items()]


def told_safe(rule):
    return ["yes" if is_safe(rule) else "no"]


def told_fewest(rule):
    many = fewest(rule)
    return [NONE if many is None else str(many)]


def told_arrows(rule):
    return [line_of_pairs(arrows(rule))]


def told_inner(rule):
    return [line_of_pairs(inner_pairs(rule))]


def told_own(rule, person):
    return [line_of_pairs(own_reads(rule, person))]


def told_lift(rule, person):
    return [str(lift(rule, person))]


# What is asked of a rule, and what is asked of somebody.
ASKED = {
    "people": told_people,
    "lists": told_lists,
    "reads": told_reads,
    "lifts": told_lifts,
    "safe": told_safe,
    "fewest": told_fewest,
    "arrows": told_arrows,
    "inner": told_inner,
}
ASKED_OF_SOMEBODY = {"own": told_own, "lift": told_lift}
WITH_WORD = ("gather", "turn")
WITH_NUMBER = ("trim", "prizes")
WITH_PAIR = ("read", "unread")


def is_figure(word):
    return len(word) == 1 and word in DIGITS


def are_two_words(words):
    return len(words) == 2 and is_word(words[0]) and is_word(words[1])


class Console(Session):
    """A session that is led by lines."""

    def __init__(self, rule):
        super().__init__(rule)

    @property
    def rule(self):
        return self._rule

    def __len__(self):
        return len(self._done)

    def __call__(self, line):
        return self.execute(line)

    def execute(self, line):
        """The texts that a line answers with."""
        if not isinstance(line, str):
            raise BadCommand(line)
        words = line.split(" ")
        try:
            told = self._asked(words) if words[0] in ASKED or words[0] in ASKED_OF_SOMEBODY else self._edited(words)
        except (MarksError, NotThere, NothingLeft) as error:
            raise BadCommand(line) from error
        if told is None:
            raise BadCommand(line)
        return told

    def _asked(self, words):
        # None for what is no command.
        if len(words) == 1 and words[0] in ASKED:
            ask = ASKED[words[0]]
            return ask(self._rule)
        if are_two_words(words) and words[0] in ASKED_OF_SOMEBODY:
            ask_of = ASKED_OF_SOMEBODY[words[0]]
            return ask_of(self._rule, words[1])
        return None

    def _edited(self, words):
        # None for what is no command.
        if words == ["undo"]:
            self.undo()
        elif words == ["redo"]:
            self.redo()
        elif len(words) == 2 and words[0] in WITH_WORD and is_word(words[1]):
            self.change(words[0], words[1])
        elif len(words) == 2 and words[0] in WITH_NUMBER and is_figure(words[1]):
            self.change(words[0], int(words[1]))
        elif len(words) == 2 and words[0] in WITH_PAIR and are_two_words(words[1].split(":")):
            marker, marked = words[1].split(":")
            self[marker, marked] = words[0] == "read"
        else:
            return None
        return [str(len(self))]
