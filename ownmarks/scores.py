"""Turned rows, and the scores, ranks and winners that a rule makes of a page."""

from math import lcm

from ownmarks.basics import NOUGHT, is_less, lowest_terms
from ownmarks.pages import need_page
from ownmarks.rules import need_rule


def turned_tops(turn, given):
    """What the marks given in a row turn to: the list of their tops, and the bottom of them all."""
    if turn == "centred":
        total = sum(given)
        return ([mark * len(given) - total for mark in given], len(given))
    if turn == "placed":
        # Twice the lower ones, and once the other ones that are equal.
        return ([2 * len([one for one in given if one < mark]) + given.count(mark) - 1 for mark in given], 2)
    return (list(given), 1)


def turned_row(rule, page, person):
    """A dict from the others to what somebody's turned row says of them, None where a mark is missing."""
    need_rule(rule)
    need_page(page, rule.crowd)
    row = page.row(person)
    given = {other: mark for other, mark in row.items() if mark is not None}
    tops, bottom = turned_tops(rule.turn, list(given.values()))
    turned = {other: lowest_terms(top, bottom) for other, top in zip(given, tops)}
    return {other: turned.get(other, None) for other in row}


def kept(gather, trim, many):
    """Which of so many fractions, from the least to the greatest, make the score: (start, stop)."""
    if gather == "median":
        return ((many - 1) // 2, many // 2 + 1)
    if gather == "trim" and many > 2 * trim:
        return (trim, many - trim)
    if gather == "least":
        return (0, 1)
    if gather == "greatest":
        return (many - 1, many)
    return (0, many)


def gathered(rule, said):
    """The score that the rule gathers from these fractions."""
    if len(said) == 0:
        return NOUGHT
    common = 1
    for _, bottom in said:
        common = lcm(common, bottom)
    tops = sorted([top * (common // bottom) for top, bottom in said])
    start, stop = kept(rule.gather, rule.trim, len(tops))
    parts = 1 if rule.gather == "sum" else stop - start
    return lowest_terms(sum(tops[start:stop]), common * parts)


def score_of(rule, rows, person):
    """Somebody's score, by a dict of the turned rows of its readers."""
    readers = rule.readers(person)
    if len(readers) == 0:
        return None
    said = [rows[reader][person] for reader in readers]
    return gathered(rule, [fraction for fraction in said if fraction is not None])


def score(rule, page, person):
    """Somebody's score, or None without readers."""
    need_rule(rule)
    need_page(page, rule.crowd)
    rows = {reader: turned_row(rule, page, reader) for reader in rule.readers(person)}
    return score_of(rule, rows, person)


def scores(rule, page):
    """A dict from all people to their scores."""
    need_rule(rule)
    need_page(page, rule.crowd)
    rows = {person: turned_row(rule, page, person) for person in rule.crowd.people}
    return {person: score_of(rule, rows, person) for person in rule.crowd.people}


def rank_among(members, found, person):
    """Somebody's rank in its list, by a dict of the scores found."""
    place = members.index(person)
    earlier_ahead = [one for one in members[:place] if not is_less(found[one], found[person])]
    later_ahead = [one for one in members[place + 1:] if is_less(found[person], found[one])]
    return 1 + len(earlier_ahead) + len(later_ahead)


def ranks(rule, page):
    """A dict from all people to their ranks."""
    found = scores(rule, page)
    return {person: rank_among(rule.list_of(person), found, person) for person in rule.crowd.people}


def winners(rule, page):
    """The list of those who win a prize."""
    return [person for person, rank in ranks(rule, page).items() if rank <= rule.prizes]


class Ranker:
    """A rule that is called with pages and tells ranks."""

    def __init__(self, rule):
        need_rule(rule)
        self._rule = rule

    def __call__(self, page):
        return ranks(self._rule, page)

    def moved(self, page, other):
        """A dict of (rank by page, rank by other) for those whose ranks differ."""
        before = ranks(self._rule, page)
        behind = ranks(self._rule, other)
        return {person: (rank, behind[person]) for person, rank in before.items() if rank != behind[person]}
