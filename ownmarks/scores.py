"""Turned rows, and the scores, ranks and winners that a rule makes of a page."""

from ownmarks.basics import lowest_terms
from ownmarks.pages import need_page
from ownmarks.rules import need_rule

# A row has at most seven marks, and somebody at most seven readers: multiplied by this, what a turned row says is an
# integer, and so is what is gathered from integers.
SCALE = 420


def turned_tops(turn, given):
    """What the marks given in a row turn to: the list of their tops, and the bottom of them all."""
    if turn == "centred":
        total = sum(given)
        return ([mark * len(given) - total for mark in given], len(given))
    if turn == "placed":
        # Twice the lower ones, and once the other ones that are equal.
        return ([2 * len([one for one in given if one < mark]) + given.count(mark) - 1 for mark in given], 2)
    return (list(given), 1)


def whole_row(turn, row):
    """What a turned row, a dict from the others to marks or None, says of those who get a mark, times SCALE."""
    given = {other: mark for other, mark in row.items() if mark is not None}
    tops, bottom = turned_tops(turn, list(given.values()))
    return {other: top * SCALE // bottom for other, top in zip(given, tops)}


def turned_row(rule, page, person):
    """A dict from the others to what somebody's turned row says of them, None where a mark is missing."""
    need_rule(rule)
    need_page(page, rule.crowd)
    row = page.row(person)
    said = whole_row(rule.turn, row)
    return {other: lowest_terms(said[other], SCALE) if other in said else None for other in row}


def kept(gather, trim, many):
    """Which of so many numbers, from the least to the greatest, make the score: (start, stop)."""
    if gather == "median":
        return ((many - 1) // 2, many // 2 + 1)
    if gather == "trim" and many > 2 * trim:
        return (trim, many - trim)
    if gather == "least":
        return (0, 1)
    if gather == "greatest":
        return (many - 1, many)
    return (0, many)


def gathered(rule, said):
    """What the rule gathers from a list of integers, times SCALE."""
    if len(said) == 0:
        return 0
    start, stop = kept(rule.gather, rule.trim, len(said))
    parts = 1 if rule.gather == "sum" else stop - start
    return sum(sorted(said)[start:stop]) * SCALE // parts


def said_of(rule, rows, person):
    """The list of what the rows of somebody's readers, dicts as of whole_row, say of it."""
    return [rows[reader][person] for reader in rule.readers(person) if person in rows[reader]]


def score_by(rule, rows, person):
    """Somebody's score, or None without readers, by a dict of the rows of its readers."""
    if len(rule.readers(person)) == 0:
        return None
    return lowest_terms(gathered(rule, said_of(rule, rows, person)), SCALE * SCALE)


def score(rule, page, person):
    """Somebody's score, or None without readers."""
    need_rule(rule)
    need_page(page, rule.crowd)
    rows = {reader: whole_row(rule.turn, page.row(reader)) for reader in rule.readers(person)}
    return score_by(rule, rows, person)


def scores(rule, page):
    """A dict from all people to their scores."""
    need_rule(rule)
    need_page(page, rule.crowd)
    rows = {person: whole_row(rule.turn, page.row(person)) for person in rule.crowd.people}
    return {person: score_by(rule, rows, person) for person in rule.crowd.people}


def rank_among(members, found, person):
    """Somebody's rank in its list, by a dict of scores that are all multiplied by the same."""
    place, own = members.index(person), found[person]
    earlier_ahead = [one for one in members[:place] if found[one] >= own]
    later_ahead = [one for one in members[place + 1:] if found[one] > own]
    return 1 + len(earlier_ahead) + len(later_ahead)


def ranks(rule, page):
    """A dict from all people to their ranks."""
    need_rule(rule)
    need_page(page, rule.crowd)
    rows = {person: whole_row(rule.turn, page.row(person)) for person in rule.crowd.people}
    found = {person: gathered(rule, said_of(rule, rows, person)) for person in rule.crowd.people}
    return {person: rank_among(rule.list_of(person), found, person) for person in rule.crowd.people}


def winners(rule, page):
    """The list of those who win a prize."""
    return [person for person, rank in ranks(rule, page).items() if rank <= rule.prizes]


class Ranker:
    """A rule that is called with pages and tells ranks."""

    def __init__(self, rule):
        need_rule(rule)
        self._rule = rule

    def __call__(self, page):
        return ranks(self._rule, page)

    def moved(self, page, other):
        """A dict of (rank by page, rank by other) for those whose ranks differ."""
        before = ranks(self._rule, page)
        behind = ranks(self._rule, other)
        return {person: (rank, behind[person]) for person, rank in before.items() if rank != behind[person]}
