"""How few people can agree on their rows so that each one gains, with plain rows."""

from ownmarks.basics import is_integer, need_number
from ownmarks.crowds import are_some_people, need_crowd
from ownmarks.pages import is_full_page, page_with
from ownmarks.rules import Rule, need_plain_rule
from ownmarks.scores import ranks
from ownmarks.swings import marks_that_decide

MOST_IN_PAPERS = 8


def indexes_of_lists(rule):
    """A dict from all people to the indexes of their lists."""
    return {person: index for index, members in enumerate(rule.lists) for person in members}


def found_arrows(rule):
    """The list of the tuples (index, index) of lists with an arrow from the first to the second, ascending."""
    indexes, lists = indexes_of_lists(rule), rule.lists
    ranked = [(marker, marked) for marker, marked in rule.reads if len(lists[indexes[marked]]) > 1]
    return sorted({(indexes[marker], indexes[marked]) for marker, marked in ranked})


def arrows(rule):
    """The list of the arrows between the lists of the rule."""
    need_plain_rule(rule)
    return found_arrows(rule)


def aims_of_arrows(rule):
    """For each list, by index, the ascending list of the indexes to which there is an arrow from it."""
    told = [[] for _ in rule.lists]
    for start, aim in found_arrows(rule):
        told[start].append(aim)
    return told


def ring_from(aims, start):
    """The indexes of a shortest ring with this list, which stands first, or None."""
    paths, seen = [[start]], []
    while len(paths) > 0:
        longer = [[*path, aim] for path in paths for aim in aims[path[-1]] if aim not in seen]
        ends = [path[-1] for path in longer]
        if start in ends:
            return longer[ends.index(start)][:-1]
        # One path to each list is enough.
        paths = [path for at, path in enumerate(longer) if path[-1] not in ends[:at]]
        seen = [*seen, *ends]
    return None


def shortest_ring(rule):
    """The indexes of a ring of the fewest lists, or None without a ring."""
    aims = aims_of_arrows(rule)
    rings = [ring_from(aims, start) for start in range(len(aims))]
    return min([ring for ring in rings if ring is not None], key=len, default=None)


def fewest(rule):
    """The fewest people of a lot that gains, or None if none ever does."""
    need_plain_rule(rule)
    ring = shortest_ring(rule)
    return None if ring is None else len(ring)


def pair_of_arrow(rule, start, aim):
    """A read pair of the arrow from one list to another one."""
    lists = rule.lists
    return [pair for pair in rule.reads if pair[0] in lists[start] and pair[1] in lists[aim]][0]


def marks_for_gain(rule, pair, person):
    """The tuple (marks, better, worse): marks with which the pair's mark moves somebody, and what it is either time."""
    # The pair marks a member of somebody's list, or somebody itself.
    marker, marked = pair
    if marked != person:
        return (marks_that_decide(rule, marker, person, marked), 0, rule.crowd.most)
    rival = [member for member in rule.list_of(person) if member != person][0]
    return (marks_that_decide(rule, marker, rival, person), rule.crowd.most, 0)


def agreement(rule):
    """A tuple (people, page, other): a lot of the fewest people that gains by two full pages, or None."""
    need_plain_rule(rule)
    ring = shortest_ring(rule)
    if ring is None:
        return None
    # The lists of a shortest ring are unlike ones: a marker of each moves the marker of the next one, and as the ranks
    # of unlike lists hang on unlike pairs, they do not come in each other's way.
    pairs = [pair_of_arrow(rule, start, aim) for start, aim in zip(ring, [*ring[1:], ring[0]])]
    better, worse = {}, {}
    for pair, after in zip(pairs, [*pairs[1:], pairs[0]]):
        marks, mark, other = marks_for_gain(rule, pair, after[0])
        for at, told in marks.items():
            better[at] = told
            worse[at] = told
        better[pair] = mark
        worse[pair] = other
    markers = [marker for marker, _ in pairs]
    people = [person for person in rule.crowd.people if person in markers]
    return (people, page_with(rule.crowd, better), page_with(rule.crowd, worse))


def gains(rule, people, page, other):
    """Whether each of some people has a better rank by the one page than by the other one."""
    before, behind = ranks(rule, page), ranks(rule, other)
    return all([before[person] < behind[person] for person in people])


def is_agreement(rule, value):
    """Whether any value is a tuple (people, page, other) of people that gain by two full pages."""
    need_plain_rule(rule)
    if not isinstance(value, tuple) or len(value) != 3:
        return False
    people, page, other = value
    if not isinstance(people, list) or len(people) == 0 or not are_some_people(rule.crowd, people):
        return False
    if not is_full_page(rule.crowd, page) or not is_full_page(rule.crowd, other):
        return False
    if any([page[pair] != other[pair] for pair in rule.crowd.pairs() if pair[0] not in people]):
        return False
    return gains(rule, people, page, other)


def aims_of_some(aims, indexes):
    """The ascending list of the indexes to which there is an arrow from one of some lists."""
    return [aim for aim in range(len(aims)) if any([aim in aims[index] for index in indexes])]


def rows_from(aims, start, number):
    """The list of so many rows of indexes: after each number of arrows from one list, those that are reached."""
    told = []
    reached = [start]
    for _ in range(number):
        reached = aims_of_some(aims, reached)
        told.append(reached)
    return told


def ring_paper(rule, number):
    """A ring paper for this number of people, or None if there is none."""
    need_plain_rule(rule)
    need_number(number, 1, MOST_IN_PAPERS)
    aims = aims_of_arrows(rule)
    paper = [(index, rows_from(aims, index, number)) for index in range(len(aims))]
    return None if any([index in row for index, rows in paper for row in rows]) else paper


def are_indexes(many, value):
    """Whether any value is an ascending list of some of so many indexes, without doubles."""
    if not isinstance(value, list) or not all([is_integer(index) for index in value]):
        return False
    return value == [index for index in range(many) if index in value]


def is_row_of_paper(aims, start, number, value):
    """Whether any value is the tuple (index, rows) of a ring paper for this list."""
    if not isinstance(value, tuple) or len(value) != 2:
        return False
    index, rows = value
    if not is_integer(index) or index != start or not isinstance(rows, list) or len(rows) != number:
        return False
    if not all([are_indexes(len(aims), row) and start not in row for row in rows]):
        return False
    return all([aim in row for ahead, row in zip([[start], *rows], rows) for aim in aims_of_some(aims, ahead)])


def bars(rule, number, paper):
    """Whether any value is a ring paper for this number of people."""
    need_plain_rule(rule)
    need_number(number, 1, MOST_IN_PAPERS)
    aims = aims_of_arrows(rule)
    if not isinstance(paper, list) or len(paper) != len(aims):
        return False
    return all([is_row_of_paper(aims, index, number, value) for index, value in enumerate(paper)])


def hardest(crowd):
    """A rule of the crowd without lists of one whose fewest people are as many as can be, or None for one person."""
    need_crowd(crowd)
    people = crowd.people
    if len(people) == 1:
        return None
    # Lists of two, the last one of three if need be, each of them marked by the one before alone.
    many = len(people) // 2
    lists = [people[2 * at:2 * at + 2] for at in range(many - 1)] + [people[2 * many - 2:]]
    markers = [lists[-1], *lists[:-1]]
    both = list(zip(markers, lists))
    reads = [(marker, marked) for ahead, members in both for marker in ahead for marked in members if marker != marked]
    return Rule(crowd, reads=reads, lists=lists)
