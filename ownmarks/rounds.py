"""Rounds that go on: each row counts as often as a weight tells, by the rank of its marker in the round before."""

from ownmarks.basics import all_tuples, is_integer_within, need_number
from ownmarks.crowds import need_person
from ownmarks.errors import BadArgument
from ownmarks.pages import need_few_pages, need_page, need_pair, page_of_marks
from ownmarks.rules import need_rule
from ownmarks.scores import turned_tops
from ownmarks.web import rank_reads

MANY_WEIGHTS = 8
GREATEST_WEIGHT = 9
MOST_ROUNDS_TOLD = 1000000
MOST_ROUNDS_TRIED = 100
# A row has at most seven marks: what they turn to are integers if multiplied by this.
SCALE = 420


def need_sum_rule(rule):
    """Raise BadArgument(rule) for what is no Rule whose gather is the sum."""
    need_rule(rule)
    if rule.gather != "sum":
        raise BadArgument(rule)


def are_weights(value):
    """Whether any value is a list or tuple of eight integers from 0 to 9."""
    if not isinstance(value, (list, tuple)) or len(value) != MANY_WEIGHTS:
        return False
    return all([is_integer_within(weight, 0, GREATEST_WEIGHT) for weight in value])


def said_by(rule, marker, row):
    """What a turned row, a dict from the others to marks or None, says of all people by read pairs, times SCALE."""
    given = {other: mark for other, mark in row.items() if mark is not None}
    tops, bottom = turned_tops(rule.turn, list(given.values()))
    said = {other: top * SCALE // bottom for other, top in zip(given, tops)}
    return [said.get(person, 0) if (marker, person) in rule else 0 for person in rule.crowd.people]


def places_by_list(rule):
    """The lists of two people or more, as lists of the places of their people."""
    return [[rule.crowd.place(member) for member in members] for members in rule.lists if len(members) > 1]


def round_behind(lists, columns, often):
    """The tuple of the ranks, by place, if rows count so often; a column is what all rows say of somebody."""
    totals = [sum([times * worth for times, worth in zip(often, column)]) for column in columns]
    told = [1] * len(columns)
    for places in lists:
        for at, (_, place) in enumerate(sorted([(-totals[one], one) for one in places])):
            told[place] = at + 1
    return tuple(told)


def course(lists, columns, weights):
    """The tuple (ranks of all rounds until some come again, the index of the round that comes again)."""
    found = {}
    ranks = round_behind(lists, columns, [1] * len(columns))
    while ranks not in found:
        found[ranks] = len(found)
        ranks = round_behind(lists, columns, [weights[rank - 1] for rank in ranks])
    return (list(found), found[ranks])


def ranks_of_round(told, start, number):
    """The ranks of a round, counted from 1 on, by a course."""
    index = number - 1
    return told[index] if index < len(told) else told[start + (index - start) % (len(told) - start)]


def said_by_rows(rule):
    """For each person, in order, a dict from the marks of all its rows to what these say of all people."""
    told = []
    for marker in rule.crowd.people:
        others = [other for other in rule.crowd.people if other != marker]
        rows = all_tuples(rule.crowd.most, len(others))
        told.append({row: said_by(rule, marker, {other: mark for other, mark in zip(others, row)}) for row in rows})
    return told


class Rounds:
    """Rounds by a rule that gathers sums, with eight weights."""

    def __init__(self, rule, weights):
        need_sum_rule(rule)
        if not are_weights(weights):
            raise BadArgument(weights)
        self._rule = rule
        self._weights = list(weights)

    @property
    def rule(self):
        return self._rule

    @property
    def weights(self):
        return list(self._weights)

    def _course(self, page):
        need_page(page, self._rule.crowd)
        said = [said_by(self._rule, marker, page.row(marker)) for marker in self._rule.crowd.people]
        return course(places_by_list(self._rule), list(zip(*said)), self._weights)

    def _named(self, ranks):
        return {person: rank for person, rank in zip(self._rule.crowd.people, ranks)}

    def __call__(self, page):
        """The tuple (before, around): the ranks of the first rounds, and of those that come again and again."""
        told, start = self._course(page)
        return ([self._named(ranks) for ranks in told[:start]], [self._named(ranks) for ranks in told[start:]])

    def ranks_in(self, page, number):
        """The dict of the ranks of a round."""
        need_page(page, self._rule.crowd)
        need_number(number, 1, MOST_ROUNDS_TOLD)
        told, start = self._course(page)
        return self._named(ranks_of_round(told, start, number))

    def rests(self, page):
        """Whether one round alone comes again and again."""
        told, start = self._course(page)
        return len(told) == start + 1

    def _counts_unlike(self, person):
        # Only then the rank of somebody tells how often its row counts.
        many = len(self._rule.list_of(person))
        return many > 1 and len(set(self._weights[:many])) > 1

    def _people_behind(self, person, number):
        """Those whose ranks in the first round may move somebody's rank in this one."""
        found = [person]
        for _ in range(number - 1):
            lists = [self._rule.list_of(one) for one in found]
            ranked = [member for members in lists if len(members) > 1 for member in members]
            readers = [reader for member in ranked for reader in self._rule.readers(member)]
            more = [reader for reader in readers if reader not in found and self._counts_unlike(reader)]
            if len(more) == 0:
                return found
            found = [one for one in self._rule.crowd.people if one in found or one in more]
        return found

    def may_read(self, person, number):
        """The list of the pairs that somebody's rank may read in a round."""
        need_person(self._rule.crowd, person)
        need_number(number, 1, MOST_ROUNDS_TRIED)
        reads = [rank_reads(self._rule, one) for one in self._people_behind(person, number)]
        return [pair for pair in self._rule.crowd.pairs() if any([pair in pairs for pairs in reads])]

    def stands_apart(self, person, number):
        """Whether somebody's rank may read none of the own marks in a round."""
        return all([marker != person for marker, _ in self.may_read(person, number)])

    def _told_ranks(self, person, number):
        """The list of (marks, rank) of somebody in a round on all full pages, told as tuples of their marks."""
        crowd = self._rule.crowd
        place, width = crowd.place(person), len(crowd) - 1
        lists, rows = places_by_list(self._rule), said_by_rows(self._rule)
        spans = [(row, at * width, at * width + width) for at, row in enumerate(rows)]
        found = []
        for marks in all_tuples(crowd.most, len(crowd.pairs())):
            said = [row[marks[start:stop]] for row, start, stop in spans]
            told, again = course(lists, list(zip(*said)), self._weights)
            found.append((marks, ranks_of_round(told, again, number)[place]))
        return found

    def _widest(self, person, number):
        """The tuple (places, marks, marks) of two full pages whose ranks, in a round, own rows put furthest apart."""
        need_person(self._rule.crowd, person)
        need_number(number, 1, MOST_ROUNDS_TRIED)
        if self.stands_apart(person, number):
            return (0, (), ())
        need_few_pages(self._rule.crowd)
        width = len(self._rule.crowd) - 1
        start = self._rule.crowd.place(person) * width
        best, worst = {}, {}
        for marks, rank in self._told_ranks(person, number):
            others = marks[:start] + marks[start + width:]
            best[others] = min(best.get(others, (rank, marks)), (rank, marks))
            worst[others] = max(worst.get(others, (rank, marks)), (rank, marks))
        found = [(worst[others][0] - best[others][0], best[others][1], worst[others][1]) for others in best]
        return max(found)

    def lift(self, person, number):
        """The greatest number of places between the ranks that somebody has, in a round, with two own rows."""
        return self._widest(person, number)[0]

    def lift_pages(self, person, number):
        """Two full pages, unlike in somebody's row alone, by which its ranks in a round are lift apart, or None."""
        places, marks, others = self._widest(person, number)
        if places == 0:
            return None
        return (page_of_marks(self._rule.crowd, marks), page_of_marks(self._rule.crowd, others))

    def mark_harm(self, pair, number):
        """Two full pages, a mark of the pair one greater by the other, by which it makes a rank worse, or None."""
        crowd = self._rule.crowd
        need_pair(crowd, pair)
        need_number(number, 1, MOST_ROUNDS_TRIED)
        if number == 1:
            return None
        need_few_pages(crowd)
        told = {marks: rank for marks, rank in self._told_ranks(pair[1], number)}
        at = crowd.pairs().index(pair)
        for marks, rank in told.items():
            more = marks[:at] + (marks[at] + 1,) + marks[at + 1:]
            if marks[at] < crowd.most and told[more] > rank:
                return (page_of_marks(crowd, marks), page_of_marks(crowd, more))
        return None
