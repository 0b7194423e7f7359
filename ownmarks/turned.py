"""How far own marks can move the own rank, for rules of small crowds, whatever the turn: told by trying."""

from ownmarks.basics import all_tuples, power
from ownmarks.crowds import need_person
from ownmarks.errors import BadArgument, TooMany
from ownmarks.pages import need_full_page, page_of_marks
from ownmarks.rules import GATHERS_OF_TURNED_ROWS, need_rule
from ownmarks.scores import ranks, turned_tops

MOST_TRIED_PEOPLE = 4
MOST_TRIED_ROWS = 64
# In a small crowd somebody has at most three readers: this can be divided by the number of readers.
SCALE = 6
# What trying tells where own rows move nothing.
NOTHING_MOVES = (0, (), (), ())


def need_gather_of_turned_rows(rule):
    """Raise BadArgument(rule) for what is no Rule whose gather is the sum or the mean."""
    need_rule(rule)
    if rule.gather not in GATHERS_OF_TURNED_ROWS:
        raise BadArgument(rule)


def need_small(crowd):
    """Raise TooMany(64) for a crowd that is not small."""
    if len(crowd) > MOST_TRIED_PEOPLE or power(crowd.most + 1, len(crowd) - 1) > MOST_TRIED_ROWS:
        raise TooMany(MOST_TRIED_ROWS)


def need_small_rule(rule, person):
    need_gather_of_turned_rows(rule)
    need_person(rule.crowd, person)
    need_small(rule.crowd)


def others_than(people, person):
    return [other for other in people if other != person]


def all_rows(crowd, person):
    """The list of all rows that somebody can give, each a dict from the others to marks."""
    others = others_than(crowd.people, person)
    return [{other: mark for other, mark in zip(others, marks)} for marks in all_tuples(crowd.most, len(others))]


def turned_rows(rule):
    """A dict from the tops of all that rows of a person can turn to, tuples, to marks that turn to them."""
    # All rows without missing marks have the same bottom, so that the tops alone tell which scores are greater.
    told = {}
    for marks in all_tuples(rule.crowd.most, len(rule.crowd) - 1):
        told.setdefault(tuple(turned_tops(rule.turn, marks)[0]), marks)
    return told


def readers_by_member(rule, person):
    """A dict from the members of somebody's list to their readers."""
    return {member: rule.readers(member) for member in rule.list_of(person)}


def part_of_score(rule, readers):
    """By what a top is multiplied in the score of somebody with these readers."""
    return SCALE // len(readers) if rule.gather == "mean" else 1


def greatest_total(rule):
    """How far from nought a score can be at most."""
    # Placed marks have tops of twice the number of the other marks of the row at most, others of the greatest mark
    # times the number of marks of the row.
    others = len(rule.crowd) - 1
    return max(rule.crowd.most, 2) * others * (SCALE if rule.gather == "mean" else others)


def rows_by_parts(people, rows, marker, readers, weights):
    """A dict from what the rows of a marker add to a total, by weights of the marked ones, to marks that add it."""
    marked = others_than(people, marker)
    own = [weights[other] if other in weights and marker in readers[other] else 0 for other in marked]
    told = {}
    for turned, marks in rows.items():
        told.setdefault(sum([weight * top for weight, top in zip(own, turned)]), marks)
    return told


def totals_by_stages(start, parts):
    """A list of dicts with totals as keys: the start alone, then with the rows of one marker more each time."""
    stages = [{start: True}]
    for rows in parts:
        ahead = stages[-1]
        stages.append({total + part: True for total in ahead for part in rows})
    return stages


def rows_that_make(total, parts, stages):
    """The list of the marks of rows, marker by marker, that make a total of the last stage."""
    told = []
    for rows, ahead in reversed(list(zip(parts, stages))):
        before = [one for one in ahead if total - one in rows][0]
        told = [rows[total - before], *told]
        total = before
    return told


def count_sums(rule, person):
    """How many unlike sums somebody has."""
    need_small_rule(rule, person)
    readers = {member: told for member, told in readers_by_member(rule, person).items() if len(told) > 0}
    # A total is one integer that holds all sums: the digit of each is so great that no sum reaches the next one.
    base = 2 * greatest_total(rule) + 1
    weights = {}
    for place, member in enumerate(readers):
        weights[member] = part_of_score(rule, readers[member]) * power(base, place)
    people, rows = rule.crowd.people, turned_rows(rule)
    parts = [rows_by_parts(people, rows, marker, readers, weights) for marker in people if marker != person]
    return len(totals_by_stages(0, parts)[-1])


def own_rows_by_parts(rule, rows, person, readers, rivals):
    """A dict from what own rows add to the scores of the rivals, a tuple, to marks that add it."""
    others = others_than(rule.crowd.people, person)
    aims = [(others.index(rival), part_of_score(rule, readers[rival])) for rival in rivals]
    told = {}
    for turned, marks in rows.items():
        told.setdefault(tuple([part * turned[spot] for spot, part in aims]), marks)
    return told


def rows_by_leads(parts, half):
    """By a lead with half of a digit added, the own rows, as bits, that put the rival ahead: each row adds its part."""
    told = []
    rows = (1 << len(parts)) - 1
    for part, row in sorted([(worth, 1 << at) for at, worth in enumerate(parts)]):
        told += [rows] * (part + half - len(told))
        rows -= row
    return told + [0] * (2 * half - len(told))


def rows_by_rivals_ahead(rows, told):
    """The tuple of the own rows, as bits, that put no rival or more ahead, one or more, two or more, and all three."""
    # Who has fewer than three rivals has others besides that are never ahead.
    padded = [*told, 0, 0, 0]
    one, two, three = padded[:3]
    return (rows, one | two | three, one & two | one & three | two & three, one & two & three)


def places_apart(levels):
    """How many places apart own rows put somebody, by the rows by rivals ahead."""
    return len(levels) - levels.count(0) - levels.count(levels[0])


def widest(own, digits, half, standings):
    """How many places apart own rows put somebody at most: (places, standing, rows by rivals ahead)."""
    leads = [(digit, rows_by_leads([parts[at] for parts in own], half)) for at, digit in enumerate(digits)]
    rows = (1 << len(own)) - 1
    best = (0, 0, (rows,))
    seen = {}
    for standing in standings:
        told = tuple([by_lead[standing // digit % (2 * half)] for digit, by_lead in leads])
        if told not in seen:
            seen[told] = True
            levels = rows_by_rivals_ahead(rows, told)
            places = places_apart(levels)
            if places > best[0]:
                best = (places, standing, levels)
            if places == len(digits):
                return best
    return best


def tried(rule, person):
    """What own rows can do: (places, rows by rivals ahead, marks of own rows, marks of the rows of the others)."""
    readers = readers_by_member(rule, person)
    # Own rows move somebody past those alone whom it marks by own reads: the rivals.
    rivals = [member for member in readers if person in readers[member]]
    if len(rivals) == 0:
        return NOTHING_MOVES
    rows = turned_rows(rule)
    own = own_rows_by_parts(rule, rows, person, readers, rivals)
    if len(own) == 1:
        return NOTHING_MOVES
    # A standing is one integer for the leads over all rivals, each a digit with half of a digit added. A lead is by
    # how much somebody's score is greater, own marks left out, and one less if the rival is ahead where both are equal.
    half = 2 * greatest_total(rule) + 2
    digits = [power(2 * half, place) for place in range(len(rivals))]
    people = rule.crowd.people
    later = people[people.index(person):]
    start = sum([digit * (half if rival in later else half - 1) for rival, digit in zip(rivals, digits)])
    weights = {rival: -part_of_score(rule, readers[rival]) * digit for rival, digit in zip(rivals, digits)}
    weights[person] = part_of_score(rule, readers[person]) * sum(digits)
    parts = [rows_by_parts(people, rows, marker, readers, weights) for marker in people if marker != person]
    stages = totals_by_stages(start, parts)
    places, standing, levels = widest(own, digits, half, stages[-1])
    if places == 0:
        return NOTHING_MOVES
    return (places, levels, list(own.values()), rows_that_make(standing, parts, stages))


def turned_lift(rule, person):
    """The greatest number of places by which own marks can move somebody's rank."""
    need_small_rule(rule, person)
    return tried(rule, person)[0]


def turned_lifts(rule):
    """A dict from all people to their lifts."""
    need_gather_of_turned_rows(rule)
    need_small(rule.crowd)
    return {person: turned_lift(rule, person) for person in rule.crowd.people}


def page_by_rows(crowd, rows):
    """The full page with the marks of these rows, in the order of the crowd."""
    return page_of_marks(crowd, [mark for row in rows for mark in row])


def turned_pages(rule, person):
    """Two full pages, unlike in somebody's row alone, by which its ranks are lift places apart, or None."""
    need_small_rule(rule, person)
    places, levels, own, others = tried(rule, person)
    if places == 0:
        return None
    # All rows put so many rivals ahead, and some no more than these.
    fewest = levels.count(levels[0]) - 1
    best = own[(levels[fewest] - levels[fewest + 1]).bit_length() - 1]
    worst = own[levels[fewest + places].bit_length() - 1]
    earlier, later = others[:rule.crowd.place(person)], others[rule.crowd.place(person):]
    return (page_by_rows(rule.crowd, [*earlier, best, *later]), page_by_rows(rule.crowd, [*earlier, worst, *later]))


def turned_reach(rule, page, person):
    """The tuple (best, worst) of the ranks that somebody can have on the full page by full rows of its own."""
    need_gather_of_turned_rows(rule)
    need_full_page(page, rule.crowd)
    need_small_rule(rule, person)
    told = [ranks(rule, page.with_row(person, row))[person] for row in all_rows(rule.crowd, person)]
    return (min(told), max(told))
