"""Rounds that go on: each row counts as often as a weight tells, by the rank of its marker in the round before."""

from ownmarks.atonce import AllPages
from ownmarks.basics import all_tuples, is_integer_within, item_in_turn, need_number
from ownmarks.crowds import need_person
from ownmarks.errors import BadArgument
from ownmarks.pages import need_few_pages, need_page, need_pair, page_of_marks
from ownmarks.rules import need_rule, places_by_list
from ownmarks.scores import whole_row
from ownmarks.web import rank_reads

MANY_WEIGHTS = 8
GREATEST_WEIGHT = 9
MOST_ROUNDS_TOLD = 1000000
MOST_ROUNDS_TRIED = 100


def need_sum_rule(rule):
    """Raise BadArgument(rule) for what is no Rule whose gather is the sum."""
    need_rule(rule)
    if rule.gather != "sum":
        raise BadArgument(rule)


def are_weights(value):
    """Whether any value is a list or tuple of eight integers from 0 to 9."""
    if not isinstance(value, (list, tuple)) or len(value) != MANY_WEIGHTS:
        return False
    return all([is_integer_within(weight, 0, GREATEST_WEIGHT) for weight in value])


def said_by(rule, marker, row):
    """What a turned row, a dict from the others to marks or None, says of all people by read pairs, times SCALE."""
    said = whole_row(rule.turn, row)
    return [said.get(person, 0) if (marker, person) in rule else 0 for person in rule.crowd.people]


def round_behind(lists, columns, often):
    """The tuple of the ranks, by place, if rows count so often; a column is what all rows say of somebody."""
    totals = [sum([times * worth for times, worth in zip(often, column)]) for column in columns]
    told = [1] * len(columns)
    for places in lists:
        for at, (_, place) in enumerate(sorted([(-totals[one], one) for one in places])):
            told[place] = at + 1
    return tuple(told)


def course(lists, columns, weights):
    """The tuple (ranks of all rounds until some come again, the index of the round that comes again)."""
    found = {}
    ranks = round_behind(lists, columns, [1] * len(columns))
    while ranks not in found:
        found[ranks] = len(found)
        ranks = round_behind(lists, columns, [weights[rank - 1] for rank in ranks])
    return (list(found), found[ranks])


def said_by_rows(rule):
    """For each person, in order, a dict from the marks of all its rows to what these say of all people."""
    told = []
    for marker in rule.crowd.people:
        others = [other for other in rule.crowd.people if other != marker]
        rows = all_tuples(rule.crowd.most, len(others))
        told.append({row: said_by(rule, marker, {other: mark for other, mark in zip(others, row)}) for row in rows})
    return told


def is_ahead_of_other(mark, against, edge, weights, number):
    """Whether, of two people, who gets this mark is ahead in a later round of who gets the other one; edge if equal."""
    ahead = mark + edge > against
    # Two people can have two rows of ranks alone: from round 2 on they have the same ones in each second round.
    for _ in range(1 + number % 2):
        # The mark comes from the other one, who counts by the first weight if it is ahead.
        times, against_times = (weights[1], weights[0]) if ahead else (weights[0], weights[1])
        ahead = mark * times + edge > against * against_times
    return ahead


def harm_of_two(rule, weights, pair, number):
    """What harming_marks tells for two people in one list, page by page, which is quicker for so few."""
    if rule.turn != "plain":
        # A row of one mark says nought of anybody if it is turned.
        return None
    most = rule.crowd.most
    # The second pair marks the earlier one, who has the edge.
    at = rule.crowd.pairs().index(pair)
    for marks in all_tuples(most, 2):
        mark, against = marks[at], marks[1 - at]
        if mark < most and is_ahead_of_other(mark, against, at, weights, number):
            if not is_ahead_of_other(mark + 1, against, at, weights, number):
                return marks
    return None


def harming_marks(rule, weights, pair, number):
    """The marks of the first page on which one mark more of the pair makes a rank worse in a later round, or None."""
    if len(rule.list_of(pair[1])) == 1:
        return None
    if len(rule.crowd) == 2:
        return harm_of_two(rule, weights, pair, number)
    return AllPages(rule, weights).harming_marks(pair, number)


class Rounds:
    """Rounds by a rule that gathers sums, with eight weights."""

    def __init__(self, rule, weights):
        need_sum_rule(rule)
        if not are_weights(weights):
            raise BadArgument(weights)
        self._rule = rule
        self._weights = list(weights)

    @property
    def rule(self):
        return self._rule

    @property
    def weights(self):
        return list(self._weights)

    def _course(self, page):
        need_page(page, self._rule.crowd)
        said = [said_by(self._rule, marker, page.row(marker)) for marker in self._rule.crowd.people]
        return course(places_by_list(self._rule), list(zip(*said)), self._weights)

    def _named(self, ranks):
        return {person: rank for person, rank in zip(self._rule.crowd.people, ranks)}

    def __call__(self, page):
        """The tuple (before, around): the ranks of the first rounds, and of those that come again and again."""
        told, start = self._course(page)
        return ([self._named(ranks) for ranks in told[:start]], [self._named(ranks) for ranks in told[start:]])

    def ranks_in(self, page, number):
        """The dict of the ranks of a round."""
        need_page(page, self._rule.crowd)
        need_number(number, 1, MOST_ROUNDS_TOLD)
        told, start = self._course(page)
        return self._named(item_in_turn(told, start, number))

    def rests(self, page):
        """Whether one round alone comes again and again."""
        told, start = self._course(page)
        return len(told) == start + 1

    def _counts_unlike(self, person):
        # Only then the rank of somebody tells how often its row counts.
        many = len(self._rule.list_of(person))
        return many > 1 and len(set(self._weights[:many])) > 1

    def _people_behind(self, person, number):
        """Those whose ranks in the first round may move somebody's rank in this one."""
        found = [person]
        for _ in range(number - 1):
            lists = [self._rule.list_of(one) for one in found]
            ranked = [member for members in lists if len(members) > 1 for member in members]
            readers = [reader for member in ranked for reader in self._rule.readers(member)]
            more = [reader for reader in readers if reader not in found and self._counts_unlike(reader)]
            if len(more) == 0:
                return found
            found = [one for one in self._rule.crowd.people if one in found or one in more]
        return found

    def may_read(self, person, number):
        """The list of the pairs that somebody's rank may read in a round."""
        need_person(self._rule.crowd, person)
        need_number(number, 1, MOST_ROUNDS_TRIED)
        reads = [rank_reads(self._rule, one) for one in self._people_behind(person, number)]
        return [pair for pair in self._rule.crowd.pairs() if any([pair in pairs for pairs in reads])]

    def stands_apart(self, person, number):
        """Whether somebody's rank may read none of the own marks in a round."""
        return all([marker != person for marker, _ in self.may_read(person, number)])

    def _told_ranks(self, person, number):
        """The list of (marks, rank) of somebody in a round on all full pages, told as tuples of their marks."""
        crowd = self._rule.crowd
        place, width = crowd.place(person), len(crowd) - 1
        lists, rows = places_by_list(self._rule), said_by_rows(self._rule)
        spans = [(row, at * width, at * width + width) for at, row in enumerate(rows)]
        found = []
        for marks in all_tuples(crowd.most, len(crowd.pairs())):
            said = [row[marks[start:stop]] for row, start, stop in spans]
            told, again = course(lists, list(zip(*said)), self._weights)
            found.append((marks, item_in_turn(told, again, number)[place]))
        return found

    def _widest(self, person, number):
        """The tuple (places, marks, marks) of two full pages whose ranks, in a round, own rows put furthest apart."""
        need_person(self._rule.crowd, person)
        need_number(number, 1, MOST_ROUNDS_TRIED)
        if self.stands_apart(person, number):
            return (0, (), ())
        need_few_pages(self._rule.crowd)
        width = len(self._rule.crowd) - 1
        start = self._rule.crowd.place(person) * width
        best, worst = {}, {}
        for marks, rank in self._told_ranks(person, number):
            others = marks[:start] + marks[start + width:]
            best[others] = min(best.get(others, (rank, marks)), (rank, marks))
            worst[others] = max(worst.get(others, (rank, marks)), (rank, marks))
        found = [(worst[others][0] - best[others][0], best[others][1], worst[others][1]) for others in best]
        return max(found)

    def lift(self, person, number):
        """The greatest number of places between the ranks that somebody has, in a round, with two own rows."""
        return self._widest(person, number)[0]

    def lift_pages(self, person, number):
        """Two full pages, unlike in somebody's row alone, by which its ranks in a round are lift apart, or None."""
        places, marks, others = self._widest(person, number)
        if places == 0:
            return None
        return (page_of_marks(self._rule.crowd, marks), page_of_marks(self._rule.crowd, others))

    def mark_harm(self, pair, number):
        """Two full pages, a mark of the pair one greater by the other, by which it makes a rank worse, or None."""
        crowd = self._rule.crowd
        need_pair(crowd, pair)
        need_number(number, 1, MOST_ROUNDS_TRIED)
        if number == 1:
            return None
        need_few_pages(crowd)
        found = harming_marks(self._rule, self._weights, pair, number)
        if found is None:
            return None
        page = page_of_marks(crowd, found)
        return (page, page.with_mark(pair, page[pair] + 1))
