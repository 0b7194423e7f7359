"""What the ranks read, and which own marks lie among it."""

from ownmarks.rules import need_rule


def rank_reads(rule, person):
    """The list of the pairs that somebody's rank reads."""
    need_rule(rule)
    members = rule.list_of(person)
    if len(members) == 1:
        return []
    if rule.turn == "plain":
        return [pair for pair in rule.reads if pair[1] in members]
    # A row is turned whole, so what a reader gives to anybody counts.
    readers = [reader for member in members for reader in rule.readers(member)]
    return [pair for pair in rule.crowd.pairs() if pair[0] in readers]


def own_reads(rule, person):
    """The list of the read pairs by which somebody marks other members of its list."""
    need_rule(rule)
    members = rule.list_of(person)
    return [pair for pair in rule.reads if pair[0] == person and pair[1] in members]


def safe_people(rule):
    """The list of those without own reads."""
    need_rule(rule)
    return [person for person in rule.crowd.people if len(own_reads(rule, person)) == 0]


def is_safe(rule):
    """Whether nobody has own reads."""
    return safe_people(rule) == rule.crowd.people


def ways(rule):
    """Yield (marker, marked, person) where the rank of person reads the pair (marker, marked)."""
    need_rule(rule)
    for person in rule.crowd.people:
        for marker, marked in rank_reads(rule, person):
            yield (marker, marked, person)
