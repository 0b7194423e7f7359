"""Partings by lot: who wins where the one list marks the other, and what that is worth in the mean."""

from ownmarks.basics import all_tuples, is_less, lowest_terms, power
from ownmarks.crowds import are_some_people, need_crowd
from ownmarks.errors import BadArgument
from ownmarks.pages import Page, need_few_pages


def need_any_full_page(page):
    """Raise BadArgument(page) for what is no full Page, of whatever crowd."""
    if not isinstance(page, Page) or not page.is_full:
        raise BadArgument(page)


def list_winners(marks, members, markers):
    """The list of the one that wins in a list marked by the other one: none in an empty list."""
    sums = {member: sum([marks[marker, member] for marker in markers]) for member in members}
    greatest = max(list(sums.values()), default=0)
    return [member for member in members if sums[member] == greatest][:1]


def parting_winners(people, marks, first):
    """The winners, in the order of the people, if those of first are the one list."""
    one = [person for person in people if person in first]
    other = [person for person in people if person not in first]
    found = list_winners(marks, one, other) + list_winners(marks, other, one)
    return [person for person in people if person in found]


def lot_winners(page, first):
    """The list of the winners if the people of first are the one list, all others the other one."""
    need_any_full_page(page)
    if not are_some_people(page.crowd, first):
        raise BadArgument(first)
    return parting_winners(page.crowd.people, page.marks, first)


def half_prizes(people, marks):
    """A dict from all people to the number of partings in which each wins."""
    told = {person: 0 for person in people}
    # The winners are the same if the lists change places, so the last one of the people can stay in one of them.
    for sides in all_tuples(1, len(people) - 1):
        first = [person for person, side in zip(people, sides) if side == 1]
        for winner in parting_winners(people, marks, first):
            told[winner] = told[winner] + 2
    return told


def halves_in_all(people):
    """By what the number of partings in which somebody wins is divided for its share."""
    return 2 * power(2, len(people))


def lot_shares(page):
    """A dict from all people to their shares."""
    need_any_full_page(page)
    people = page.crowd.people
    return {person: lowest_terms(won, halves_in_all(people)) for person, won in half_prizes(people, page.marks).items()}


def sums_of_marks(people, marks):
    """A dict from all people to the sums of all marks for them."""
    return {person: sum([marks[marker, person] for marker in people if marker != person]) for person in people}


def worth_and_greatest(people, marks):
    """The tuple (worth, greatest sum of all marks for one person)."""
    sums = sums_of_marks(people, marks)
    halves = sum([won * sums[person] for person, won in half_prizes(people, marks).items()])
    return (lowest_terms(halves, halves_in_all(people)), max(list(sums.values())))


def lot_worth(page):
    """The sum, over all people, of the share multiplied by the sum of all marks."""
    need_any_full_page(page)
    return worth_and_greatest(page.crowd.people, page.marks)[0]


def ratio_of(people, marks):
    worth, greatest = worth_and_greatest(people, marks)
    return None if greatest == 0 else lowest_terms(worth[0], worth[1] * greatest)


def lot_ratio(page):
    """The worth divided by the greatest sum of all marks for one person, or None if all marks are 0."""
    need_any_full_page(page)
    return ratio_of(page.crowd.people, page.marks)


def worst_lot(crowd):
    """A tuple of the least ratio of all full pages and a page with it, or None without marks above 0."""
    need_crowd(crowd)
    need_few_pages(crowd)
    people, pairs = crowd.people, crowd.pairs()
    told = None
    for row in all_tuples(crowd.most, len(pairs)):
        marks = {pair: mark for pair, mark in zip(pairs, row)}
        ratio = ratio_of(people, marks)
        if ratio is not None and (told is None or is_less(ratio, told[0])):
            told = (ratio, marks)
    return None if told is None else (told[0], Page(crowd, told[1]))
