"""How far own marks can move the own rank, with plain rows."""

from ownmarks.basics import NOUGHT, are_ascending, are_in_order, is_fraction, is_integer, is_less, lowest_terms
from ownmarks.crowds import need_person
from ownmarks.errors import BadNumber
from ownmarks.pages import Page, is_row_change, need_page
from ownmarks.rules import need_plain_rule, need_rule
from ownmarks.scores import kept, ranks
from ownmarks.web import own_reads


def need_places(places):
    """Raise BadNumber(places) for what is no integer from 0 on."""
    if not is_integer(places) or places < 0:
        raise BadNumber(places)


def kept_marks(rule, person):
    """Which marks of somebody's readers, ascending, make its score: (below, many, above)."""
    readers = len(rule.readers(person))
    start, stop = kept(rule.gather, rule.trim, readers)
    return (start, stop - start, readers - stop)


def parts_of_score(rule, many):
    """By what the sum of so many marks that are kept is divided."""
    return 1 if rule.gather == "sum" else many


def possible_scores(rule, person):
    """The fractions that somebody can have as its score on full pages, ascending."""
    if len(rule.readers(person)) == 0:
        return []
    many = kept_marks(rule, person)[1]
    parts = parts_of_score(rule, many)
    return [lowest_terms(total, parts) for total in range(many * rule.crowd.most + 1)]


def greatest_score(rule, person):
    """The greatest score that somebody with readers can have on full pages."""
    many = kept_marks(rule, person)[1]
    return lowest_terms(many * rule.crowd.most, parts_of_score(rule, many))


def values(rule, person):
    """The list of all scores that somebody can have on full pages."""
    need_plain_rule(rule)
    need_person(rule.crowd, person)
    return possible_scores(rule, person)


def decides(rule, person, member, score):
    """Whether somebody's mark for a member by own reads decides at a score."""
    # All kept marks of the member but one sum to some s, whatever the own mark is; the last one is
    # low with own mark 0, and high with the greatest own mark. The other readers can make low 0, high the
    # greatest mark, and s any integer from 0 on that the kept marks but one can sum to: so the spans from
    # s + low to s + high leave no gap between nought and the greatest score, and none reaches beyond.
    greatest = greatest_score(rule, member)
    if rule.crowd.place(person) < rule.crowd.place(member):
        return not is_less(score, NOUGHT) and is_less(score, greatest)
    return is_less(NOUGHT, score) and not is_less(greatest, score)


def members_by_own_reads(rule, person):
    return [marked for _, marked in own_reads(rule, person)]


def decided_members(rule, person, score):
    """The list of the members by own reads that are decided at a score."""
    return [member for member in members_by_own_reads(rule, person) if decides(rule, person, member, score)]


def decided(rule, person, marked):
    """The list of the scores at which somebody's mark for the one marked decides."""
    need_plain_rule(rule)
    need_person(rule.crowd, person)
    need_person(rule.crowd, marked)
    if marked not in members_by_own_reads(rule, person):
        return []
    return [score for score in possible_scores(rule, person) if decides(rule, person, marked, score)]


def lift(rule, person):
    """The greatest number of places by which own marks can move somebody's rank."""
    need_plain_rule(rule)
    need_person(rule.crowd, person)
    return max([len(decided_members(rule, person, score)) for score in possible_scores(rule, person)], default=0)


def lifts(rule):
    """A dict from all people to their lifts."""
    need_plain_rule(rule)
    return {person: lift(rule, person) for person in rule.crowd.people}


def marks_summing_to(total, many, most):
    """So many marks whose sum is this total, or all greatest ones if it is more than theirs."""
    full, left = divmod(total, most)
    marks = [most] * full + [left] + [0] * many
    return marks[:many]


def marks_for_score(rule, person, score):
    """Marks of somebody's readers, in their order, with which it has this score."""
    most = rule.crowd.most
    below, many, above = kept_marks(rule, person)
    total = score[0] * parts_of_score(rule, many) // score[1]
    return [0] * below + marks_summing_to(total, many, most) + [most] * above


def marks_where_decided(rule, person, member, score):
    """Marks of the other readers of a member, in their order, with which somebody's mark decides at a score."""
    most = rule.crowd.most
    below, many, above = kept_marks(rule, member)
    top = score[0] * parts_of_score(rule, many)
    if rule.crowd.place(person) < rule.crowd.place(member):
        total = top // score[1]
    else:
        # The greatest integer below top / score[1]: the member with own mark 0 stays below the score.
        total = (top - 1) // score[1]
    return [0] * below + marks_summing_to(total, many - 1, most) + [most] * above


def marks_that_decide(rule, marker, person, member):
    """A dict from pairs to marks by which a marker's mark for a member decides whether somebody is ahead of it."""
    # With mark 0 somebody is ahead, with the greatest one the member is. Whoever is earlier is ahead where both have
    # nought; whoever is later needs the least score above it, which no member's greatest score is less than.
    earlier = rule.crowd.place(person) < rule.crowd.place(member)
    score = possible_scores(rule, person)[0 if earlier else 1]
    told = {(reader, person): mark for reader, mark in zip(rule.readers(person), marks_for_score(rule, person, score))}
    others = [reader for reader in rule.readers(member) if reader != marker]
    for reader, mark in zip(others, marks_where_decided(rule, person, member, score)):
        told[reader, member] = mark
    return told


def lift_page(rule, person, score):
    """A full page on which the own mark for each member that is decided at the score decides."""
    marks = {pair: 0 for pair in rule.crowd.pairs()}
    for reader, mark in zip(rule.readers(person), marks_for_score(rule, person, score)):
        marks[reader, person] = mark
    for member in decided_members(rule, person, score):
        others = [reader for reader in rule.readers(member) if reader != person]
        for reader, mark in zip(others, marks_where_decided(rule, person, member, score)):
            marks[reader, member] = mark
    return Page(rule.crowd, marks)


def even_row(crowd, person, mark):
    """The row by which somebody gives this mark to all others."""
    return {other: mark for other in crowd.people if other != person}


def lift_pages(rule, person):
    """Two full pages, unlike in somebody's row alone, by which its ranks are lift places apart, or None."""
    places = lift(rule, person)
    if places == 0:
        return None
    best = [score for score in possible_scores(rule, person) if len(decided_members(rule, person, score)) == places]
    page = lift_page(rule, person, best[0])
    low = page.with_row(person, even_row(rule.crowd, person, 0))
    high = page.with_row(person, even_row(rule.crowd, person, rule.crowd.most))
    return (low, high)


def is_moved(rule, person, places, value):
    """Whether any value is a tuple of two full pages by which somebody's own row moves it so many places."""
    need_rule(rule)
    need_person(rule.crowd, person)
    need_places(places)
    if not is_row_change(rule.crowd, person, value):
        return False
    page, other = value
    return abs(ranks(rule, page)[person] - ranks(rule, other)[person]) == places


def reach(rule, page, person):
    """The tuple (best, worst) of the ranks that somebody can have on the page by full rows of its own."""
    need_plain_rule(rule)
    need_page(page, rule.crowd)
    need_person(rule.crowd, person)
    low = page.with_row(person, even_row(rule.crowd, person, 0))
    high = page.with_row(person, even_row(rule.crowd, person, rule.crowd.most))
    return (ranks(rule, low)[person], ranks(rule, high)[person])


def lift_paper(rule, person):
    """A lift paper of somebody for its lift."""
    need_plain_rule(rule)
    need_person(rule.crowd, person)
    return [(score, decided_members(rule, person, score)) for score in possible_scores(rule, person)]


def is_paper(members, value):
    """Whether any value is a list of tuples (fraction, some of the members), the fractions ascending."""
    if not isinstance(value, list) or not all([isinstance(row, tuple) and len(row) == 2 for row in value]):
        return False
    if not all([is_fraction(score) and are_in_order(members, people) for score, people in value]):
        return False
    return are_ascending([score for score, _ in value])


def bounds_lift(rule, person, places, paper):
    """Whether any value is a lift paper of somebody for this number of places."""
    need_plain_rule(rule)
    need_person(rule.crowd, person)
    need_places(places)
    if not is_paper(members_by_own_reads(rule, person), paper):
        return False
    told = {score: people for score, people in paper}
    found = possible_scores(rule, person)
    if any([len(people) > places for people in told.values()]) or not all([score in told for score in found]):
        return False
    return all([member in told[score] for score in found for member in decided_members(rule, person, score)])
