"""Rules put together, and taken apart where nothing hangs together."""

from ownmarks.crowds import MOST_PEOPLE, Crowd, are_some_people
from ownmarks.errors import BadArgument
from ownmarks.rules import Rule, lists_in_order, need_plain_rule, need_rule


def can_be_joined(rule, value):
    """Whether any value is a rule that can be joined to a rule with plain rows."""
    if not isinstance(value, Rule) or value.crowd.most != rule.crowd.most:
        return False
    if (value.turn, value.gather, value.trim, value.prizes) != (rule.turn, rule.gather, rule.trim, rule.prizes):
        return False
    people = rule.crowd.people + value.crowd.people
    return len(people) <= MOST_PEOPLE and len(set(people)) == len(people)


def joined(rule, other):
    """The rule with the people, pairs and lists of both."""
    need_plain_rule(rule)
    if not can_be_joined(rule, other):
        raise BadArgument(other)
    return Rule(
        Crowd(rule.crowd.people + other.crowd.people, rule.crowd.most),
        reads=rule.reads + other.reads,
        gather=rule.gather,
        trim=rule.trim,
        lists=rule.lists + other.lists,
        prizes=rule.prizes,
    )


def parts_of(rule):
    """The smallest lists of people such that no read pair and no list has people of two of them."""
    need_rule(rule)
    parts = rule.lists
    for marker, marked in rule.reads:
        touched = [part for part in parts if marker in part or marked in part]
        others = [part for part in parts if marker not in part and marked not in part]
        parts = others + [[person for part in touched for person in part]]
    return lists_in_order(rule.crowd, parts)


def are_whole_parts(rule, value):
    """Whether any value is a list or tuple of just the people of one part or more."""
    if not are_some_people(rule.crowd, value) or len(value) == 0:
        return False
    chosen = [part for part in parts_of(rule) if any([person in value for person in part])]
    return len(value) == sum([len(part) for part in chosen])


def only(rule, people):
    """The rule of some of its parts alone."""
    need_rule(rule)
    if not are_whole_parts(rule, people):
        raise BadArgument(people)
    return Rule(
        Crowd([person for person in rule.crowd.people if person in people], rule.crowd.most),
        turn=rule.turn,
        reads=[pair for pair in rule.reads if pair[0] in people],
        gather=rule.gather,
        trim=rule.trim,
        lists=[members for members in rule.lists if members[0] in people],
        prizes=rule.prizes,
    )
