"""The marks that must go unread so that nobody's own marks matter, with plain rows."""

from ownmarks.basics import is_integer
from ownmarks.errors import BadArgument, BadPair, BadRule
from ownmarks.pages import page_with
from ownmarks.rules import are_lists, need_plain_rule
from ownmarks.swings import marks_that_decide


def pairs_within(reads, lists):
    """The list of the read pairs of which both are of one list."""
    return [pair for pair in reads if any([pair[0] in members and pair[1] in members for members in lists])]


def inner_pairs(rule):
    """The list of the inner pairs."""
    need_plain_rule(rule)
    return pairs_within(rule.reads, rule.lists)


def moving_pages(rule, pair):
    """Two full pages, equal but for the mark of an inner pair, by which the marker is one place apart."""
    need_plain_rule(rule)
    if not rule.crowd.is_pair(pair) or pair not in pairs_within(rule.reads, rule.lists):
        raise BadPair(pair)
    marker, marked = pair
    page = page_with(rule.crowd, marks_that_decide(rule, marker, marker, marked))
    return (page.with_mark(pair, 0), page.with_mark(pair, rule.crowd.most))


def made_safe(rule):
    """The rule without its inner pairs, or None if somebody keeps too few readers."""
    need_plain_rule(rule)
    inner = pairs_within(rule.reads, rule.lists)
    try:
        return rule.changed(reads=[pair for pair in rule.reads if pair not in inner])
    except BadRule:
        return None


def cost(rule, lists):
    """How many read pairs are inner with these lists."""
    need_plain_rule(rule)
    if lists is None:
        return len(rule.reads)
    if not are_lists(rule.crowd, lists):
        raise BadRule("lists")
    return len(pairs_within(rule.reads, lists))


def are_sizes(crowd, value):
    """Whether any value is a list or tuple of integers from 1 on whose sum is the number of people."""
    if not isinstance(value, (list, tuple)) or not all([is_integer(size) and size >= 1 for size in value]):
        return False
    return sum(value) == len(crowd)


def with_one_more(lists, left, place):
    """All tuples (lists, sizes left) with a place more, in one of the lists or in a new one of a size that is left."""
    # Each list stands behind the size that it will have.
    told = []
    for at, (size, members) in enumerate(lists):
        if len(members) < size:
            told.append(([*lists[:at], (size, [*members, place]), *lists[at + 1:]], left))
    for at, size in enumerate(left):
        if size not in left[:at]:
            told.append(([*lists, (size, [place])], [*left[:at], *left[at + 1:]]))
    return told


def partings_with(sizes):
    """The ascending list of all partings of places into lists of these sizes, each by the first places of its lists."""
    found = [([], list(sizes))]
    for place in range(sum(sizes)):
        found = [more for lists, left in found for more in with_one_more(lists, left, place)]
    whole = [lists for lists, _ in found]
    return sorted([[members for _, members in lists] for lists in whole])


def cost_of_list(rule, members):
    """How many read pairs are within a list, or None if somebody of it keeps too few readers without them."""
    told = 0
    for member in members:
        readers = rule.readers(member)
        within = [reader for reader in readers if reader in members]
        if len(members) > 1 and len(readers) - len(within) <= 2 * rule.trim:
            return None
        told += len(within)
    return told


def least_lists(rule, sizes):
    """A tuple (cost, partings): the least cost with lists of these sizes, and all partings with it, or None."""
    need_plain_rule(rule)
    if not are_sizes(rule.crowd, sizes):
        raise BadArgument(sizes)
    people = rule.crowd.people
    # Many partings have the same lists.
    costs = {}
    told = {}
    for parting in partings_with(sizes):
        lists = [[people[place] for place in places] for places in parting]
        for members in lists:
            if tuple(members) not in costs:
                costs[tuple(members)] = cost_of_list(rule, members)
        spent = [costs[tuple(members)] for members in lists]
        if None not in spent:
            told.setdefault(sum(spent), []).append(lists)
    return min(list(told.items()), default=None)
