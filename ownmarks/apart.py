"""Markers whose marks for the same person are far apart, and who must be left out so that the others go together."""

from ownmarks.basics import need_number
from ownmarks.crowds import are_some_people
from ownmarks.errors import BadArgument
from ownmarks.pages import Page

MOST_LEFT_OUT = 8


def need_any_page(page):
    """Raise BadArgument(page) for what is no Page, of whatever crowd."""
    if not isinstance(page, Page):
        raise BadArgument(page)


def found_clashes(page, spread):
    """The list of (earlier marker, later marker, marked) where two marks differ by more than the spread."""
    people, marks = page.crowd.people, page.marks
    told = []
    for at, marker in enumerate(people):
        for other in people[at + 1:]:
            for marked in people:
                mark, more = marks.get((marker, marked), None), marks.get((other, marked), None)
                if mark is not None and more is not None and abs(mark - more) > spread:
                    told.append((marker, other, marked))
    return told


def clashes(page, spread):
    """The list of (earlier marker, later marker, marked) where two marks differ by more than the spread."""
    need_any_page(page)
    need_number(spread, 0, page.crowd.most)
    return found_clashes(page, spread)


def goes_together(page, people, spread):
    """Whether some markers go together on the page."""
    need_any_page(page)
    if not are_some_people(page.crowd, people):
        raise BadArgument(people)
    need_number(spread, 0, page.crowd.most)
    return not any([marker in people and other in people for marker, other, _ in found_clashes(page, spread)])


def with_one_more(people, lots):
    """All lists with one more of the people, who is later than those of a lot, lot by lot."""
    told = []
    for lot in lots:
        later = people[people.index(lot[-1]) + 1:] if len(lot) > 0 else people
        told += [[*lot, person] for person in later]
    return told


def found_least(page, spread):
    """The list of all lists of as few people as can be without whom the others go together, ascending."""
    people = page.crowd.people
    apart = sorted({(marker, other) for marker, other, _ in found_clashes(page, spread)})
    lots = [[]]
    while True:
        enough = [lot for lot in lots if all([marker in lot or other in lot for marker, other in apart])]
        if len(enough) > 0:
            return enough
        lots = with_one_more(people, lots)


def least_left_out(page, spread):
    """The list of all lists of as few people as can be whose leaving out is enough."""
    need_any_page(page)
    need_number(spread, 0, page.crowd.most)
    return found_least(page, spread)


def always_left_out(page, spread):
    """The list of those who are in all lists of as few people as can be whose leaving out is enough."""
    need_any_page(page)
    need_number(spread, 0, page.crowd.most)
    lots = found_least(page, spread)
    return [person for person in page.crowd.people if all([person in lot for lot in lots])]


def least_spread(page, many):
    """The least spread for which leaving out at most so many people is enough."""
    need_any_page(page)
    need_number(many, 0, MOST_LEFT_OUT)
    # No marks differ by more than the greatest one.
    return [spread for spread in range(page.crowd.most + 1) if len(found_least(page, spread)[0]) <= many][0]
