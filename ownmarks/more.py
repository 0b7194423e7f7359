"""A mark more, a reader more, and missing marks: what they do to the rank of the one marked."""

from ownmarks.basics import is_less, lowest_terms
from ownmarks.errors import BadMark, BadPair
from ownmarks.pages import is_full_page, need_mark, need_page, need_pair, page_with
from ownmarks.rules import need_plain_rule, need_rule
from ownmarks.scores import SCALE, gathered, rank_among, ranks, said_of, whole_row
from ownmarks.swings import kept_marks, marks_for_score, parts_of_score, possible_scores


def mark_more(rule, page, pair):
    """The tuple of the ranks of the one marked by the page, and with this mark one greater."""
    need_rule(rule)
    need_page(page, rule.crowd)
    need_pair(rule.crowd, pair)
    mark = page[pair]
    if mark is None or mark == rule.crowd.most:
        raise BadMark(mark)
    return (ranks(rule, page)[pair[1]], ranks(rule, page.with_mark(pair, mark + 1))[pair[1]])


def members_moved(rule, pair):
    """The members of the list of the one marked whose scores hang on the mark of the pair."""
    marker, marked = pair
    told = [member for member in rule.list_of(marked) if marker in rule.readers(member)]
    # A row that is turned says something else of each of its people if one mark changes.
    return [member for member in told if member == marked] if rule.turn == "plain" else told


def against_missing(rule, page, pair):
    """A dict from all marks to the rank of the one marked with this mark, less its rank with the mark missing."""
    need_rule(rule)
    need_page(page, rule.crowd)
    need_pair(rule.crowd, pair)
    marker, marked = pair
    members, moved = rule.list_of(marked), members_moved(rule, pair)
    rows = {person: whole_row(rule.turn, page.row(person)) for person in rule.crowd.people}
    found = {member: gathered(rule, said_of(rule, rows, member)) for member in members if member not in moved}
    others = {**rows, marker: {}}
    said = {member: said_of(rule, others, member) for member in moved}
    own, told = page.row(marker), []
    for mark in [None, *range(rule.crowd.most + 1)]:
        row = whole_row(rule.turn, {**own, marked: mark})
        for member in moved:
            found[member] = gathered(rule, [*said[member], row[member]] if member in row else said[member])
        told.append(rank_among(members, found, marked))
    return {mark: rank - told[0] for mark, rank in enumerate(told[1:])}


def need_unread_pair(rule, pair):
    """Raise BadPair(pair) for what is no pair, or is read already."""
    if not rule.crowd.is_pair(pair) or pair in rule:
        raise BadPair(pair)


def with_read(rule, pair):
    """The rule that reads the pair, too."""
    need_plain_rule(rule)
    need_unread_pair(rule, pair)
    return rule.changed(reads=[*rule.reads, pair])


def score_between(rule, rival, person, high, low):
    """A score of a rival by which somebody is ahead with the high score and behind with the low one, or None."""
    many = kept_marks(rule, rival)[1]
    parts = parts_of_score(rule, many)
    if rule.crowd.place(person) < rule.crowd.place(rival):
        # The greatest one that is not above the high score: it must be above the low one.
        total = min(high[0] * parts // high[1], many * rule.crowd.most)
        found = lowest_terms(total, parts)
        return found if is_less(low, found) else None
    # The least one that is not below the low score: it must be below the high one.
    total = -(-low[0] * parts // low[1])
    found = lowest_terms(total, parts)
    return found if is_less(found, high) and total <= many * rule.crowd.most else None


def harm_found(rule, pair, mark):
    """Marks of the readers of the one marked, a rival and its score, by which reading the pair harms, or None."""
    more = with_read(rule, pair)
    marked = pair[1]
    rivals = [member for member in rule.list_of(marked) if member != marked]
    if len(rivals) == 0:
        return None
    for score in possible_scores(rule, marked):
        # Of all marks with this score, those by which the mark that is read, too, makes it as low as can be: the
        # marks left out below are 0, those above are the greatest ones, and two in the middle are far apart.
        marks = marks_for_score(rule, marked, score)
        low = lowest_terms(gathered(more, [*marks, mark]), SCALE)
        if is_less(low, score):
            for rival in rivals:
                worth = score_between(rule, rival, marked, score, low)
                if worth is not None:
                    return (marks, rival, worth)
    return None


def harms(rule, pair, mark):
    """A full page with this mark on which reading the pair, too, makes the rank of the one marked worse, or None."""
    need_plain_rule(rule)
    need_unread_pair(rule, pair)
    need_mark(rule.crowd, mark)
    found = harm_found(rule, pair, mark)
    if found is None:
        return None
    marks, rival, worth = found
    told = {(reader, pair[1]): one for reader, one in zip(rule.readers(pair[1]), marks)}
    for reader, one in zip(rule.readers(rival), marks_for_score(rule, rival, worth)):
        told[reader, rival] = one
    told[pair] = mark
    return page_with(rule.crowd, told)


def is_harm(rule, pair, mark, value):
    """Whether any value is a full page with this mark on which reading the pair, too, makes the rank worse."""
    need_plain_rule(rule)
    need_unread_pair(rule, pair)
    need_mark(rule.crowd, mark)
    if not is_full_page(rule.crowd, value) or value[pair] != mark:
        return False
    return ranks(with_read(rule, pair), value)[pair[1]] > ranks(rule, value)[pair[1]]


def least_harmless(rule, pair):
    """The least mark with which reading the pair, too, does not harm."""
    need_plain_rule(rule)
    need_unread_pair(rule, pair)
    return [mark for mark in range(rule.crowd.most + 1) if harm_found(rule, pair, mark) is None][0]
