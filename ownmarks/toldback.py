"""What told marks leave open, with plain rows: scores, ranks, and full pages that go with told ranks."""

from math import lcm

from ownmarks.basics import is_integer, lowest_terms
from ownmarks.crowds import need_person
from ownmarks.errors import BadArgument
from ownmarks.pages import Page, is_full_page, is_mark
from ownmarks.rules import need_plain_rule
from ownmarks.scores import Ranker
from ownmarks.swings import kept_marks, parts_of_score


def are_told_marks(crowd, value):
    """Whether any value is a dict from some pairs to marks."""
    if not isinstance(value, dict):
        return False
    return all([crowd.is_pair(pair) and is_mark(crowd, mark) for pair, mark in value.items()])


def need_told_marks(crowd, marks):
    """Raise BadArgument(marks) for what is no told marks."""
    if not are_told_marks(crowd, marks):
        raise BadArgument(marks)


def are_told_ranks(rule, value):
    """Whether any value is a dict from people to ranks: of each list all ranks, each once, or none."""
    if not isinstance(value, dict):
        return False
    if not all([person in rule.crowd and is_integer(rank) for person, rank in value.items()]):
        return False
    for members in rule.lists:
        told = sorted([value[member] for member in members if member in value])
        if len(told) > 0 and told != list(range(1, len(members) + 1)):
            return False
    return True


def need_told_ranks(rule, ranks):
    """Raise BadArgument(ranks) for what is no told ranks."""
    if not are_told_ranks(rule, ranks):
        raise BadArgument(ranks)


def sum_of_kept(rule, person, said):
    """The sum of those of the marks of somebody's readers that make its score."""
    below, many, _ = kept_marks(rule, person)
    return sum(sorted(said)[below:below + many])


def sums_that_are_open(rule, person, marks):
    """The tuple (least, greatest) of the sums of kept marks on full pages with the told marks."""
    # A mark that is one greater makes the sum of the kept ones greater by one or leaves it, so that every
    # integer between the sums with all other marks 0 and with all greatest ones can be had.
    readers = rule.readers(person)
    low = [marks.get((reader, person), 0) for reader in readers]
    high = [marks.get((reader, person), rule.crowd.most) for reader in readers]
    return (sum_of_kept(rule, person, low), sum_of_kept(rule, person, high))


def can_score(rule, person, marks):
    """The list of the scores that somebody can have on full pages with the told marks."""
    need_plain_rule(rule)
    need_person(rule.crowd, person)
    need_told_marks(rule.crowd, marks)
    if len(rule.readers(person)) == 0:
        return []
    least, greatest = sums_that_are_open(rule, person, marks)
    parts = parts_of_score(rule, kept_marks(rule, person)[1])
    return [lowest_terms(total, parts) for total in range(least, greatest + 1)]


def standing_spans(rule, members, marks):
    """A dict from the members of a list of two or more to the tuples (least sum, greatest sum, step, start)."""
    # With a sum, a member stands at sum * step + start. Whoever stands higher is ahead: step makes scores of all
    # members integers and leaves room for start, which tells the earlier ones of equal scores.
    parts = {member: parts_of_score(rule, kept_marks(rule, member)[1]) for member in members}
    common = 1
    for member in members:
        common = lcm(common, parts[member])
    told = {}
    for start, member in enumerate(reversed(list(members))):
        least, greatest = sums_that_are_open(rule, member, marks)
        told[member] = (least, greatest, common // parts[member] * len(members), start)
    return told


def lowest_standing(span):
    least, _, step, start = span
    return least * step + start


def highest_standing(span):
    _, greatest, step, start = span
    return greatest * step + start


def standings(span):
    least, greatest, step, start = span
    return [total * step + start for total in range(least, greatest + 1)]


def can_rank(rule, person, marks):
    """The list of the ranks that somebody can have on full pages with the told marks."""
    need_plain_rule(rule)
    need_person(rule.crowd, person)
    need_told_marks(rule.crowd, marks)
    members = rule.list_of(person)
    if len(members) == 1:
        return [1]
    spans = standing_spans(rule, members, marks)
    others = [spans[member] for member in members if member != person]
    found = {}
    for standing in standings(spans[person]):
        sure = len([span for span in others if lowest_standing(span) > standing])
        possible = len([span for span in others if highest_standing(span) > standing])
        for rank in range(1 + sure, 2 + possible):
            found[rank] = True
    return sorted(list(found))


def highest_below(span, ceiling):
    """The highest standing of a span below the ceiling (None for no ceiling), or None."""
    least, greatest, step, start = span
    total = greatest if ceiling is None else min(greatest, (ceiling - 1 - start) // step)
    return None if total < least else total * step + start


def standings_in_order(spans, order):
    """A dict from people to standings by which each one is behind the one before, or None."""
    told = {}
    ceiling = None
    for person in order:
        # The higher each one stands, the more is left for those behind it.
        ceiling = highest_below(spans[person], ceiling)
        if ceiling is None:
            return None
        told[person] = ceiling
    return told


def marks_for_sum(rule, person, marks, total):
    """A dict from the pairs of somebody's readers to marks, the told ones among them, with this sum of kept ones."""
    pairs = [(reader, person) for reader in rule.readers(person)]
    told = {pair: marks.get(pair, 0) for pair in pairs}
    for pair in pairs:
        while pair not in marks and told[pair] < rule.crowd.most:
            if sum_of_kept(rule, person, list(told.values())) == total:
                return told
            told[pair] += 1
    return told


def sums_in_order(rule, order, marks):
    """A dict from the people of a list to the sums of kept marks by which they rank in this order, or None."""
    if len(order) == 1:
        return {}
    spans = standing_spans(rule, rule.list_of(order[0]), marks)
    found = standings_in_order(spans, order)
    if found is None:
        return None
    told = {}
    for person, standing in found.items():
        _, _, step, start = spans[person]
        told[person] = (standing - start) // step
    return told


def page_for(rule, ranks, marks):
    """A full page that goes with the told ranks and marks, or None."""
    need_plain_rule(rule)
    need_told_ranks(rule, ranks)
    need_told_marks(rule.crowd, marks)
    told = {pair: marks.get(pair, 0) for pair in rule.crowd.pairs()}
    for members in rule.lists:
        if members[0] in ranks:
            order = [member for rank in range(1, len(members) + 1) for member in members if ranks[member] == rank]
            sums = sums_in_order(rule, order, marks)
            if sums is None:
                return None
            for person, total in sums.items():
                told.update(marks_for_sum(rule, person, marks, total))
    return Page(rule.crowd, told)


def goes_with(rule, ranks, marks, value):
    """Whether any value is a full page that goes with the told ranks and marks."""
    need_plain_rule(rule)
    need_told_ranks(rule, ranks)
    need_told_marks(rule.crowd, marks)
    if not is_full_page(rule.crowd, value) or any([value[pair] != mark for pair, mark in marks.items()]):
        return False
    ranker = Ranker(rule)
    found = ranker(value)
    return all([found[person] == rank for person, rank in ranks.items()])


def longer_orders(spans, order, ceiling):
    """The tuples (order, standing of its last one) with one person more that is behind all others."""
    told = []
    for person in spans:
        standing = highest_below(spans[person], ceiling)
        if person not in order and standing is not None:
            told.append(([*order, person], standing))
    return told


def open_orders(rule, members, marks):
    """The list of the orders, from rank 1 on, in which the people of a list can rank on full pages."""
    if len(members) == 1:
        return [members]
    spans = standing_spans(rule, members, marks)
    found = [([], None)]
    for _ in members:
        found = [longer for order, ceiling in found for longer in longer_orders(spans, order, ceiling)]
    return [order for order, _ in found]


def lots_of_ranks(rule, marks):
    """Yield all told ranks of all people that go with the told marks on some full page."""
    need_plain_rule(rule)
    need_told_marks(rule.crowd, marks)
    people = rule.crowd.people
    found = [{}]
    for members in rule.lists:
        lots = [{person: at + 1 for at, person in enumerate(order)} for order in open_orders(rule, members, marks)]
        found = [{**ranks, **more} for ranks in found for more in lots]
    for row in sorted([tuple([ranks[person] for person in people]) for ranks in found]):
        yield {person: rank for person, rank in zip(people, row)}
