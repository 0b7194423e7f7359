"""Whether own marks can win or lose a prize, with plain rows: pages that show it, or papers that they cannot."""

from ownmarks.basics import NOUGHT, are_ascending, are_in_order, is_fraction, is_less
from ownmarks.crowds import need_person
from ownmarks.errors import BadArgument
from ownmarks.pages import Page, is_row_change
from ownmarks.rules import need_plain_rule
from ownmarks.scores import winners
from ownmarks.swings import decided_members, greatest_score, marks_for_score, marks_where_decided, possible_scores


def other_members(rule, person):
    return [member for member in rule.list_of(person) if member != person]


def is_ahead_with(rule, member, worth, person, score):
    """Whether a member with this worth as its score is ahead of somebody with this score."""
    if rule.crowd.place(member) < rule.crowd.place(person):
        return not is_less(worth, score)
    return is_less(score, worth)


def sure_members(rule, person, score):
    """The list of the members that are ahead on all full pages: with the least score that there is, too."""
    return [member for member in other_members(rule, person) if is_ahead_with(rule, member, NOUGHT, person, score)]


def possible_members(rule, person, score):
    """The list of the members that are ahead on some full page: with their greatest scores at least."""
    members = other_members(rule, person)
    return [member for member in members if is_ahead_with(rule, member, greatest_score(rule, member), person, score)]


def need_possible_score(rule, person, score):
    """Raise BadArgument(score) for what is no score that somebody can have."""
    if not is_fraction(score) or score not in possible_scores(rule, person):
        raise BadArgument(score)


def sure_ahead(rule, person, score):
    """The list of the other members that are ahead of somebody with this score on all full pages."""
    need_plain_rule(rule)
    need_person(rule.crowd, person)
    need_possible_score(rule, person, score)
    return sure_members(rule, person, score)


def may_be_ahead(rule, person, score):
    """The list of the other members that are ahead of somebody with this score on some full page."""
    need_plain_rule(rule)
    need_person(rule.crowd, person)
    need_possible_score(rule, person, score)
    return possible_members(rule, person, score)


def others_just_ahead(rule, person, member, score):
    """Members, one less than there are prizes, that can just be ahead while the own mark moves this one, or None."""
    wanted = rule.prizes - 1
    sure = [one for one in sure_members(rule, person, score) if one != member]
    possible = [one for one in possible_members(rule, person, score) if one != member]
    if not len(sure) <= wanted <= len(possible):
        return None
    more = [one for one in possible if one not in sure]
    return sure + more[:wanted - len(sure)]


def hanging_place(rule, person):
    """A tuple (score, member, others ahead) by which somebody's prize hangs on its own marks, or None."""
    for score in possible_scores(rule, person):
        for member in decided_members(rule, person, score):
            ahead = others_just_ahead(rule, person, member, score)
            if ahead is not None:
                return (score, member, ahead)
    return None


def prize_hangs(rule, person):
    """Whether somebody's prize hangs on its own marks."""
    need_plain_rule(rule)
    need_person(rule.crowd, person)
    return hanging_place(rule, person) is not None


def hanging(rule):
    """The list of those whose prizes hang on their own marks."""
    need_plain_rule(rule)
    return [person for person in rule.crowd.people if prize_hangs(rule, person)]


def prize_page(rule, person, place):
    """A full page on which somebody has the score, those others are ahead, and its mark for the member decides."""
    score, member, ahead = place
    marks = {pair: rule.crowd.most if pair[1] in ahead else 0 for pair in rule.crowd.pairs()}
    for reader, mark in zip(rule.readers(person), marks_for_score(rule, person, score)):
        marks[reader, person] = mark
    others = [reader for reader in rule.readers(member) if reader != person]
    for reader, mark in zip(others, marks_where_decided(rule, person, member, score)):
        marks[reader, member] = mark
    return Page(rule.crowd, marks)


def prize_pages(rule, person):
    """Two full pages, unlike in somebody's row alone, of which it wins on the first one alone, or None."""
    need_plain_rule(rule)
    need_person(rule.crowd, person)
    place = hanging_place(rule, person)
    if place is None:
        return None
    page = prize_page(rule, person, place)
    own_pair = (person, place[1])
    return (page.with_mark(own_pair, 0), page.with_mark(own_pair, rule.crowd.most))


def is_prize_move(rule, person, value):
    """Whether any value is a tuple of two full pages by which somebody's own row loses it its prize."""
    need_plain_rule(rule)
    need_person(rule.crowd, person)
    if not is_row_change(rule.crowd, person, value):
        return False
    page, other = value
    return person in winners(rule, page) and person not in winners(rule, other)


def prize_paper(rule, person):
    """A prize paper of somebody, or None if its prize hangs on its own marks."""
    if prize_hangs(rule, person):
        return None
    told = []
    for score in possible_scores(rule, person):
        possible = possible_members(rule, person, score)
        behind = [member for member in other_members(rule, person) if member not in possible]
        told.append((score, sure_members(rule, person, score), behind))
    return told


def is_right_prize_row(rule, person, value):
    """Whether any value is a tuple (fraction, ahead, behind) that is right by itself."""
    if not isinstance(value, tuple) or len(value) != 3 or not is_fraction(value[0]):
        return False
    score, ahead, behind = value
    members = other_members(rule, person)
    if not are_in_order(members, ahead) or not are_in_order(members, behind):
        return False
    sure = sure_members(rule, person, score)
    possible = possible_members(rule, person, score)
    return all([member in sure for member in ahead]) and not any([member in possible for member in behind])


def bars_prize_move(rule, person, row):
    """Whether a right row of a paper shows that no own mark moves somebody past the last prize at its score."""
    score, ahead, behind = row
    members = other_members(rule, person)
    for member in decided_members(rule, person, score):
        others = [one for one in members if one != member]
        surely_ahead = [one for one in others if one in ahead]
        perhaps_ahead = [one for one in others if one not in behind]
        if len(surely_ahead) < rule.prizes and len(perhaps_ahead) > rule.prizes - 2:
            return False
    return True


def shows_prize(rule, person, paper):
    """Whether any value is a prize paper of somebody."""
    need_plain_rule(rule)
    need_person(rule.crowd, person)
    if not isinstance(paper, list) or not all([is_right_prize_row(rule, person, row) for row in paper]):
        return False
    if not are_ascending([row[0] for row in paper]):
        return False
    told = {row[0]: row for row in paper}
    found = possible_scores(rule, person)
    if not all([score in told for score in found]):
        return False
    return all([bars_prize_move(rule, person, told[score]) for score in found])
