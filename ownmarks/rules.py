"""Rules: which marks are read, how they are gathered into scores, and the lists that are ranked."""

from ownmarks.basics import is_integer, is_integer_within
from ownmarks.crowds import need_crowd, need_person
from ownmarks.errors import BadArgument, BadRule

TURNS = ("plain", "centred", "placed")
GATHERS = ("sum", "mean", "median", "trim", "least", "greatest")
GATHERS_OF_TURNED_ROWS = ("sum", "mean")
GREATEST_TRIM = 3
MOST_PRIZES = 8


def is_turn(value):
    return isinstance(value, str) and value in TURNS


def are_reads(crowd, value):
    """Whether any value is a list or tuple of unlike pairs."""
    if not isinstance(value, (list, tuple)):
        return False
    # Only pairs can be looked for doubles: other values may be no members of a set.
    return all([crowd.is_pair(pair) for pair in value]) and len(set(value)) == len(value)


def is_gather(turn, value):
    """Whether any value is a gather that goes with the turn."""
    if not isinstance(value, str) or value not in GATHERS:
        return False
    return turn == "plain" or value in GATHERS_OF_TURNED_ROWS


def is_trim(gather, value):
    """Whether any value is a trim that goes with the gather."""
    if gather == "trim":
        return is_integer_within(value, 1, GREATEST_TRIM)
    return is_integer(value) and value == 0


def are_lists(crowd, value):
    """Whether any value is a parting of all people into lists or tuples, none of them empty."""
    if not isinstance(value, (list, tuple)):
        return False
    if not all([isinstance(members, (list, tuple)) and len(members) > 0 for members in value]):
        return False
    parted = [person for members in value for person in members]
    return len(parted) == len(crowd) and all([person in crowd for person in parted]) and len(set(parted)) == len(parted)


def lists_in_order(crowd, lists):
    """The same lists, each in the order of the crowd, and by their first people."""
    ordered = [[person for person in crowd.people if person in members] for members in lists]
    return [members for first in crowd.people for members in ordered if members[0] == first]


def is_short_of_readers(readers, lists, trim):
    """Whether somebody in a list of two or more has too few readers."""
    ranked = [person for members in lists if len(members) > 1 for person in members]
    return any([len(readers[person]) <= 2 * trim for person in ranked])


class Rule:
    """What is read, and how it makes scores and ranks. No rule ever changes."""

    def __init__(self, crowd, *, turn="plain", reads=None, gather="sum", trim=0, lists=None, prizes=0):
        need_crowd(crowd)
        if not is_turn(turn):
            raise BadRule("turn")
        if reads is not None and not are_reads(crowd, reads):
            raise BadRule("reads")
        if not is_gather(turn, gather):
            raise BadRule("gather")
        if not is_trim(gather, trim):
            raise BadRule("trim")
        if lists is not None and not are_lists(crowd, lists):
            raise BadRule("lists")
        self.crowd = crowd
        self.turn = turn
        self.gather = gather
        self.trim = trim
        self.prizes = prizes
        self._reads = [pair for pair in crowd.pairs() if reads is None or pair in reads]
        self._lists = [crowd.people] if lists is None else lists_in_order(crowd, lists)
        self._readers = {person: [pair[0] for pair in self._reads if pair[1] == person] for person in crowd.people}
        if is_short_of_readers(self._readers, self._lists, trim):
            raise BadRule("lists")
        if not is_integer_within(prizes, 0, MOST_PRIZES):
            raise BadRule("prizes")

    @property
    def reads(self):
        return list(self._reads)

    @property
    def lists(self):
        return [list(members) for members in self._lists]

    def __len__(self):
        return len(self._reads)

    def __contains__(self, x):
        return self.crowd.is_pair(x) and x in self._reads

    def __iter__(self):
        return iter(self._reads)

    def __eq__(self, other):
        return is_like_but_for_reads(self, other) and self.reads == other.reads

    def __or__(self, other):
        if not is_like_but_for_reads(self, other):
            raise BadArgument(other)
        return self.changed(reads=[pair for pair in self.crowd.pairs() if pair in self or pair in other])

    def __and__(self, other):
        if not is_like_but_for_reads(self, other):
            raise BadArgument(other)
        return self.changed(reads=[pair for pair in self.crowd.pairs() if pair in self and pair in other])

    def readers(self, person):
        """Those who mark somebody by read pairs."""
        need_person(self.crowd, person)
        return list(self._readers[person])

    def list_of(self, person):
        """The list in which somebody is ranked."""
        need_person(self.crowd, person)
        return [member for members in self._lists if person in members for member in members]

    def changed(self, *, turn=None, reads=None, gather=None, trim=None, lists=None, prizes=None):
        """The rule with other parts; None leaves a part as it is."""
        return Rule(
            self.crowd,
            turn=self.turn if turn is None else turn,
            reads=self.reads if reads is None else reads,
            gather=self.gather if gather is None else gather,
            trim=self.trim if trim is None else trim,
            lists=self.lists if lists is None else lists,
            prizes=self.prizes if prizes is None else prizes,
        )

    def is_within(self, other):
        """Whether any value is a rule that is equal but for reads, and reads all that this one reads."""
        return is_like_but_for_reads(self, other) and all([pair in other for pair in self._reads])


def parts_but_reads(rule):
    return (rule.crowd, rule.turn, rule.gather, rule.trim, rule.lists, rule.prizes)


def is_like_but_for_reads(rule, value):
    """Whether any value is a Rule that is equal to the rule but for reads."""
    return isinstance(value, Rule) and parts_but_reads(rule) == parts_but_reads(value)


def need_rule(rule):
    """Raise BadArgument(rule) for what is no Rule."""
    if not isinstance(rule, Rule):
        raise BadArgument(rule)


def need_plain_rule(rule):
    """Raise BadArgument(rule) for what is no Rule with plain rows."""
    need_rule(rule)
    if rule.turn != "plain":
        raise BadArgument(rule)


def places_by_list(rule):
    """The lists of two people or more, as lists of the places of their people."""
    return [[rule.crowd.place(member) for member in members] for members in rule.lists if len(members) > 1]
