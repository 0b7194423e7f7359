"""A prize by lot in which own marks never count, for two or three people with marks 0 and 1."""

from math import lcm

from ownmarks.basics import (
    NOUGHT,
    all_tuples,
    is_fraction_from_nought,
    is_integer,
    is_less,
    lowest_terms,
    power,
    sum_of,
    times,
)
from ownmarks.crowds import Crowd, need_person
from ownmarks.errors import BadArgument
from ownmarks.pages import is_mark

PEOPLE_IN_LOTS = (2, 3)
# No lot has a greater share by what share_paper tells, and the one of best_lot has it.
HALF = (1, 2)
ONE = (1, 1)
# A bottom that all chances have together is handy as long as it has no more bits than this.
MOST_BITS = 16384


def need_lot_crowd(crowd):
    """Raise BadArgument(crowd) for what is no Crowd of two or three people with the greatest mark 1."""
    if not isinstance(crowd, Crowd) or len(crowd) not in PEOPLE_IN_LOTS or crowd.most != 1:
        raise BadArgument(crowd)


def need_share(share):
    """Raise BadArgument(share) for what is no fraction from 0 on."""
    if not is_fraction_from_nought(share):
        raise BadArgument(share)


def are_some_marks(crowd, many, value):
    """Whether any value is a tuple of so many marks."""
    return isinstance(value, tuple) and len(value) == many and all([is_mark(crowd, mark) for mark in value])


def are_page_marks(crowd, value):
    return are_some_marks(crowd, len(crowd.pairs()), value)


def page_tuples(crowd):
    """The list of all pages, each as the tuple of its marks."""
    return all_tuples(crowd.most, len(crowd.pairs()))


def pairs_in_view(crowd, person):
    return [pair for pair in crowd.pairs() if pair[0] != person]


def seen(crowd, person, marks):
    """The view that somebody has of a page."""
    return tuple([mark for pair, mark in zip(crowd.pairs(), marks) if pair[0] != person])


def views(crowd, person):
    """The list of all views of somebody."""
    need_lot_crowd(crowd)
    need_person(crowd, person)
    return all_tuples(crowd.most, len(pairs_in_view(crowd, person)))


def view_of(crowd, person, marks):
    """The view that somebody has of a page told as the tuple of its marks."""
    need_lot_crowd(crowd)
    need_person(crowd, person)
    if not are_page_marks(crowd, marks):
        raise BadArgument(marks)
    return seen(crowd, person, marks)


def sums_by_person(crowd, marks):
    """A dict from all people to the sums of the marks for them on a page told as a tuple."""
    told = {person: 0 for person in crowd.people}
    for pair, mark in zip(crowd.pairs(), marks):
        told[pair[1]] = told[pair[1]] + mark
    return told


def greatest_sum(crowd, marks):
    return max(list(sums_by_person(crowd, marks).values()))


def best_share(crowd):
    """The greatest share that a lot can have."""
    need_lot_crowd(crowd)
    return HALF


def orders(people):
    """The list of all orders of the people, each a list."""
    told = [[]]
    for person in people:
        told = [[*order[:at], person, *order[at:]] for order in told for at in range(len(order) + 1)]
    return told


def last_to_lead(order, marks):
    """Who gets the prize if the people come in this order: the one that leads at last."""
    # Whoever comes leads if those ahead of it but the leader give it as much as the leader was given by those
    # ahead of the leader. So somebody's own marks are counted only when it has come and does not lead: too late.
    leader, score = order[0], 0
    for at in range(1, len(order)):
        comer, ahead = order[at], order[:at]
        if sum([marks[marker, comer] for marker in ahead if marker != leader]) >= score:
            score = sum([marks[marker, comer] for marker in ahead])
            leader = comer
    return leader


def chance_of(crowd, person, view):
    """In how many of all orders somebody leads at last, as a fraction."""
    marks = {pair: 0 for pair in crowd.pairs()}
    for pair, mark in zip(pairs_in_view(crowd, person), view):
        marks[pair] = mark
    leaders = [last_to_lead(order, marks) for order in orders(crowd.people)]
    return lowest_terms(leaders.count(person), len(leaders))


def best_lot(crowd):
    """A lot with the best share."""
    need_lot_crowd(crowd)
    return {(person, view): chance_of(crowd, person, view) for person in crowd.people for view in views(crowd, person)}


def share_paper(crowd):
    """A share paper whose sum of all y is the best share."""
    need_lot_crowd(crowd)
    one, other = crowd.people[:2]
    by_one = tuple([1 if pair == (one, other) else 0 for pair in crowd.pairs()])
    by_other = tuple([1 if pair == (other, one) else 0 for pair in crowd.pairs()])
    by_both = tuple([mark + more for mark, more in zip(by_one, by_other)])
    # Where one of the two alone has a mark, its chance is to be a share at least; where both have one, each sees
    # what it saw there, so that both chances together are two shares, and at most 1.
    return [(by_other, NOUGHT, HALF), (by_one, NOUGHT, HALF), (by_both, HALF, NOUGHT)]


def are_lot_keys(people, seeing, keys):
    """Whether all values of a list are tuples (person, view)."""
    if not all([isinstance(key, tuple) and len(key) == 2 for key in keys]):
        return False
    if not all([isinstance(person, str) and isinstance(view, tuple) for person, view in keys]):
        return False
    # For Python, True and 1 are one key: of what kind the marks are is looked at ahead of what they are worth.
    if not all([is_integer(mark) for _, view in keys for mark in view]):
        return False
    known = {view: True for view in seeing}
    return all([person in people and view in known for person, view in keys])


def are_chances(people, seeing, value):
    """Whether any value is a dict from all tuples (person, view) to fractions from 0 on."""
    if not isinstance(value, dict) or len(value) != len(people) * len(seeing):
        return False
    if not all([is_fraction_from_nought(chance) for chance in value.values()]):
        return False
    return are_lot_keys(people, seeing, list(value))


def common_bottom(fractions):
    """The least bottom that all fractions can have, or None if it is too long to be handy."""
    common = 1
    for _, bottom in fractions:
        common = lcm(common, bottom)
        if common.bit_length() > MOST_BITS:
            return None
    return common


def by_pages(crowd, place, told):
    """The list, by pages, of what the person at a place has by its views, told as a list by views."""
    # Pages go by the rows of the earlier people, then by the own row, which no view has, then by the later rows.
    rows = power(crowd.most + 1, len(crowd) - 1)
    later = len(told) // power(rows, place)
    return [worth for at in range(0, len(told), later) for worth in told[at:at + later] * rows]


def sums_by_views(crowd, person, seeing):
    """The list, by views, of the sums of the marks for somebody."""
    spots = [at for at, pair in enumerate(pairs_in_view(crowd, person)) if pair[1] == person]
    return [sum([view[at] for at in spots]) for view in seeing]


def sums_by_pages(crowd, told):
    """The list, by pages, of the sums over all people of what each one has by its views."""
    columns = [by_pages(crowd, place, row) for place, row in enumerate(told)]
    return [sum(row) for row in zip(*columns)]


def is_shared_out(crowd, seeing, chances, whole, share):
    """Whether on each page the chances are at most 1 together, and enough for the share: whole is a common bottom."""
    people = crowd.people
    tops = {key: top * (whole // bottom) for key, (top, bottom) in chances.items()}
    parts = [[tops[person, view] for view in seeing] for person in people]
    if any([together > whole for together in sums_by_pages(crowd, parts)]):
        return False
    sums = [sums_by_views(crowd, person, seeing) for person in people]
    worths = [[top * many for top, many in zip(row, marks)] for row, marks in zip(parts, sums)]
    columns = [by_pages(crowd, place, row) for place, row in enumerate(sums)]
    asked = [max(row) * share[0] * whole for row in zip(*columns)]
    return all([worth * share[1] >= least for worth, least in zip(sums_by_pages(crowd, worths), asked)])


def is_shared_out_on(crowd, chances, marks, share):
    """The same for one page alone."""
    found = {person: chances[person, seen(crowd, person, marks)] for person in crowd.people}
    if is_less(ONE, sum_of(list(found.values()))):
        return False
    worth = sum_of([times(found[person], many) for person, many in sums_by_person(crowd, marks).items()])
    return not is_less(worth, times(share, greatest_sum(crowd, marks)))


def is_lot(crowd, value, share):
    """Whether any value is a lot whose share is at least this one."""
    need_lot_crowd(crowd)
    need_share(share)
    # All see as many marks, so that all have the same views.
    seeing = views(crowd, crowd.people[0])
    if not are_chances(crowd.people, seeing, value):
        return False
    whole = common_bottom(list(value.values()))
    if whole is None:
        # With long bottoms it is quicker to go from page to page.
        return all([is_shared_out_on(crowd, value, marks, share) for marks in page_tuples(crowd)])
    return is_shared_out(crowd, seeing, value, whole, share)


def is_share_row(crowd, value):
    """Whether any value is a tuple (page, y, z)."""
    if not isinstance(value, tuple) or len(value) != 3 or not are_page_marks(crowd, value[0]):
        return False
    return is_fraction_from_nought(value[1]) and is_fraction_from_nought(value[2])


def is_paid(crowd, paper, person, view):
    """Whether by the pages of one view the sum of y is at least what z asks for this person."""
    rows = [row for row in paper if seen(crowd, person, row[0]) == view]
    asked = sum_of([times(z, sums_by_person(crowd, marks)[person]) for marks, _, z in rows])
    return not is_less(sum_of([y for _, y, _ in rows]), asked)


def bounds_share(crowd, paper, share):
    """Whether any value is a share paper whose sum of all y is at most this share."""
    need_lot_crowd(crowd)
    need_share(share)
    if not isinstance(paper, list) or not all([is_share_row(crowd, row) for row in paper]):
        return False
    if len({row[0] for row in paper}) != len(paper):
        return False
    if sum_of([times(z, greatest_sum(crowd, marks)) for marks, _, z in paper]) != ONE:
        return False
    if not all([is_paid(crowd, paper, person, view) for person in crowd.people for view in views(crowd, person)]):
        return False
    return not is_less(share, sum_of([y for _, y, _ in paper]))
