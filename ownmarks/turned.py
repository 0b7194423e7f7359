"""How far own marks can move the own rank, for rules of small crowds, whatever the turn: told by trying."""

from ownmarks.basics import all_tuples, power
from ownmarks.crowds import need_person
from ownmarks.errors import BadArgument, TooMany
from ownmarks.pages import Page, need_full_page
from ownmarks.rules import GATHERS_OF_TURNED_ROWS, need_rule
from ownmarks.scores import ranks, turned_mark

MOST_TRIED_PEOPLE = 4
MOST_TRIED_ROWS = 64
# In a small crowd a row has at most three marks and somebody at most three readers, so that what a mark turns to,
# and that divided by the number of readers, are integers if multiplied by this.
SCALE = 36


def need_gather_of_turned_rows(rule):
    """Raise BadArgument(rule) for what is no Rule whose gather is the sum or the mean."""
    need_rule(rule)
    if rule.gather not in GATHERS_OF_TURNED_ROWS:
        raise BadArgument(rule)


def need_small(crowd):
    """Raise TooMany(64) for a crowd that is not small."""
    if len(crowd) > MOST_TRIED_PEOPLE or power(crowd.most + 1, len(crowd) - 1) > MOST_TRIED_ROWS:
        raise TooMany(MOST_TRIED_ROWS)


def need_small_rule(rule, person):
    need_gather_of_turned_rows(rule)
    need_person(rule.crowd, person)
    need_small(rule.crowd)


def all_rows(crowd, person):
    """The list of all rows that somebody can give, each a dict from the others to marks."""
    others = [other for other in crowd.people if other != person]
    return [{other: mark for other, mark in zip(others, marks)} for marks in all_tuples(crowd.most, len(others))]


def members_with_readers(rule, person):
    return [member for member in rule.list_of(person) if len(rule.readers(member)) > 0]


def part_of_score(rule, marker, row, member):
    """What the row of a marker adds to the score of a member, multiplied by SCALE."""
    readers = rule.readers(member)
    if marker not in readers:
        return 0
    top, bottom = turned_mark(rule.turn, list(row.values()), row[member])
    return top * SCALE // (bottom * (len(readers) if rule.gather == "mean" else 1))


def rows_by_parts(rule, members, marker):
    """A dict from what the rows of a marker can add to the scores of the members, to a row that adds it."""
    told = {}
    for row in all_rows(rule.crowd, marker):
        told.setdefault(tuple([part_of_score(rule, marker, row, member) for member in members]), row)
    return told


def added(one, other):
    return tuple([part + more for part, more in zip(one, other)])


def with_rows_of(marker, found, rows):
    """A dict from what the rows of some people and those of a marker make together, to rows that make it."""
    told = {}
    for sums, before in found.items():
        for parts, row in rows.items():
            told.setdefault(added(sums, parts), [*before, (marker, row)])
    return told


def others_by_sums(rule, person):
    """A dict from the sums of somebody, multiplied by SCALE, to rows of all others that make each."""
    members = members_with_readers(rule, person)
    found = {tuple([0] * len(members)): []}
    for marker in rule.crowd.people:
        if marker != person:
            found = with_rows_of(marker, found, rows_by_parts(rule, members, marker))
    return found


def rank_by(place, totals):
    """The rank of the member at this place, by the scores of all members."""
    own = totals[place]
    earlier_ahead = [one for one in totals[:place] if one >= own]
    later_ahead = [one for one in totals[place + 1:] if one > own]
    return 1 + len(earlier_ahead) + len(later_ahead)


def rows_by_ranks(place, sums, rows):
    """A dict from the ranks that somebody can have with these sums, to an own row that gives it each."""
    return {rank_by(place, added(sums, parts)): rows[parts] for parts in rows}


def widest(rule, person):
    """How many places apart the own ranks are at most: (places, rows of the others, best own row, worst own row)."""
    members = members_with_readers(rule, person)
    if len(members) < 2:
        return (0, [], {}, {})
    place = members.index(person)
    own_rows = rows_by_parts(rule, members, person)
    best = (-1, [], {}, {})
    for sums, others in others_by_sums(rule, person).items():
        told = rows_by_ranks(place, sums, own_rows)
        low, high = min(list(told)), max(list(told))
        if high - low > best[0]:
            best = (high - low, others, told[low], told[high])
    return best


def turned_lift(rule, person):
    """The greatest number of places by which own marks can move somebody's rank."""
    need_small_rule(rule, person)
    return widest(rule, person)[0]


def turned_lifts(rule):
    """A dict from all people to their lifts."""
    need_gather_of_turned_rows(rule)
    need_small(rule.crowd)
    return {person: turned_lift(rule, person) for person in rule.crowd.people}


def count_sums(rule, person):
    """How many unlike sums somebody has."""
    need_small_rule(rule, person)
    return len(others_by_sums(rule, person))


def page_by_rows(crowd, rows):
    return Page(crowd, {(marker, marked): mark for marker, row in rows for marked, mark in row.items()})


def turned_pages(rule, person):
    """Two full pages, unlike in somebody's row alone, by which its ranks are lift places apart, or None."""
    need_small_rule(rule, person)
    places, others, best, worst = widest(rule, person)
    if places == 0:
        return None
    return (page_by_rows(rule.crowd, [*others, (person, best)]), page_by_rows(rule.crowd, [*others, (person, worst)]))


def turned_reach(rule, page, person):
    """The tuple (best, worst) of the ranks that somebody can have on the full page by full rows of its own."""
    need_gather_of_turned_rows(rule)
    need_full_page(page, rule.crowd)
    need_small_rule(rule, person)
    told = [ranks(rule, page.with_row(person, row))[person] for row in all_rows(rule.crowd, person)]
    return (min(told), max(told))
